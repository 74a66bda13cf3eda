/-
  What regex.sequence reads. Conditions: the text is no longer than 200 bytes, and the reader stands within it.
-/
import Derived.Test.YtpnmcinbohdmhaaRep
set_option linter.unusedSimpArgs false
namespace Go.Proofs.Ytpnmcinbohdmhaa
open Go Go.RowKit Kit
theorem seqL_on {G : Nat → Res Re} {s : ByteArray} {acc : List Re} {k : Nat} (h : goesOn s k = true) : seqL G s acc k = match repP G s k with | .err e j => .err e j | .ok x j => if _h2 : k < j then seqL G s (acc ++ [x]) j else .err 0 0 := by
  rw [seqL, dif_pos h]
  cases repP G s k <;> rfl
theorem seqL_off {G : Nat → Res Re} {s : ByteArray} {acc : List Re} {k : Nat} (h : goesOn s k = false) : seqL G s acc k = .ok (gather 2 acc) k := by
  rw [seqL, dif_neg (by rw [h]; simp)]
theorem six_re (op n cap : Nat) (x : BitVec 256) (A : Option Addr) : Six (re6 op x (.slice A n cap)) := ⟨_, _, _, _, _, rfl⟩
theorem six_cells {w : World} {k o1 n1 p1 : Nat} {s1 : BitVec 256} {A1 : Option Addr} (hb : w.heap[k]? = some (.cells #[.int .i64 o1, .int .u64 (wdN s1 0), .int .u64 (wdN s1 1), .int .u64 (wdN s1 2), .int .u64 (wdN s1 3), .slice A1 n1 p1] 27 (0, 0))) :
    ∀ (j : Nat) (c : Value), (cellsOf (re6 o1 s1 (.slice A1 n1 p1)))[j]? = some c → w.cell? ⟨k, j, none⟩ = some c := by
  intro j c hj
  rw [blk_cell hb]
  have e : cellsOf (re6 o1 s1 (.slice A1 n1 p1)) = [.int .i64 o1, .int .u64 (wdN s1 0), .int .u64 (wdN s1 1), .int .u64 (wdN s1 2), .int .u64 (wdN s1 3), .slice A1 n1 p1] := rfl
  rw [e] at hj
  rw [← Array.getElem?_toList]
  exact hj
set_option maxHeartbeats 4000000 in
theorem sequence_go (g : Nat) (s : ByteArray) (k op : Nat) (G : Nat → Res Re) (w : World) (h : Rd g s k op w) (hs : s.size ≤ 200) (hk : k ≤ s.size) (hG : ∀ k, k < s.size → Fw s k (repP G s k)) (HC : ∀ k, k < s.size → ∀ w, Rd g s k op w → Calls Try.prog 29 #[ptr g] w (RePost g s op (repP G s k) w)) (R : Res Re) (HR : Hid (seqL G s [] k = R)) : Calls Try.prog 23 #[ptr g] w (RePost g s op R w) := by
  have HQ := Lib.hid (And.intro HC hG)
  clear HC hG
  unfold RePost at HQ
  have hgl := h.lt
  have H := Lib.hid ((St.start h).alloc (.cells #[.int .i64 0, .int .u64 0, .int .u64 0, .int .u64 0, .int .u64 0, .slice none 0 0] 27))
  obtain ⟨⟨c0, c1, c2⟩, f0, f1, f2⟩ := h.cells
  clear h
  unfold ptr at *
  have HI := Lib.hid H.out
  go_enter Try.func23, Try.ntmps23
  go_wp2_with fail
  clear c0 c1 c2 f0 f1 f2
  go_loopw [4] (fun v wr => ∃ (j : Nat) (acc : List Re), j ≤ s.size ∧ acc.length ≤ j ∧ seqL G s acc j = R ∧ Row (w.heap.size + 1) wr v acc ∧ St g s j op [(w.heap.size, (.cells #[.int .i64 0, .int .u64 0, .int .u64 0, .int .u64 0, .int .u64 0, .slice none 0 0] 27))] w wr) (fun _ wr => s.size - atOf g wr)
  case atStart => exact ⟨k, [], hk, Nat.zero_le _, HR.out, Row.nil _ _, HI.out⟩
  case round =>
    clear HR HI H
    obtain ⟨j, acc, hj, hl, hr, hrow, hst⟩ := hrel
    have H := Lib.hid hst
    have HR := Lib.hid hr
    have HW := Lib.hid hrow
    have HL := Lib.hid hl
    clear hst hr hrow hl
    have HM := Lib.hid (atOf_rd H.out.1)
    obtain ⟨⟨c0, c1, c2⟩, f0, f1, f2⟩ := H.out.1.cells
    by_cases hlt0 : j < s.size
    case neg =>
      have hlt : s.size ≤ j := by omega
      have HE : Hid (R = .ok (gather 2 acc) j) := Lib.hid (by rw [← HR.out, seqL_off (by unfold goesOn; simp [hlt0])])
      clear HR
      go_wp2_with fail
      refine wp_region_go Kept pre_kept [([(0, none)], none), ([(7, some 0)], none), ([(8, some 1)], none), ([(9, some 2)], none), ([(0, none)], none), ([(11, some 4)], none), ([(12, some 5)], none), ([(13, some 6)], none), ([(14, some 7)], none), ([(10, some 3), (15, some 8)], none), ([(16, some 9)], none), ([(0, none), (17, some 10)], some (17, true)), ([(18, some 11), (17, some 10)], some (17, true)), ([(19, some 12), (17, some 10)], some (17, true)), ([(17, some 10), (20, some 13)], none), ([(21, some 14)], none), ([(0, none), (22, some 15)], some (22, true)), ([(23, some 16), (22, some 15)], some (22, true)), ([(24, some 17), (22, some 15)], some (22, true)), ([(22, some 15), (25, some 18)], none)] (by kernel_rfl) 42 rfl (by kernel_rfl) (by kernel_rfl) ?_
      apply go_val pre_kept
      · rintro ρ wr ⟨hg, hn, hc, hf, hgl⟩
        simp only [Need, fat, List.nil_append, List.cons_append, List.getD_cons_zero, List.getD_cons_succ, Fct.hold, and_true] at hn
        refine ⟨by simp [wantP, hn], ?_⟩
        simp [execOp, hn, hc, go_sem]
        exact rfl
      apply go_val pre_kept
      · rintro ρ wr ⟨hg, hn, hc, hf, hgl⟩
        simp only [Need, fat, List.nil_append, List.cons_append, List.getD_cons_zero, List.getD_cons_succ, Fct.hold, and_true] at hn
        refine ⟨by simp [wantP, hn], ?_⟩
        simp [execOp, hn, hc, go_sem]
        exact rfl
      apply go_val pre_kept
      · rintro ρ wr ⟨hg, hn, hc, hf, hgl⟩
        simp only [Need, fat, List.nil_append, List.cons_append, List.getD_cons_zero, List.getD_cons_succ, Fct.hold, and_true] at hn
        refine ⟨by simp [wantP, hn], ?_⟩
        simp [execOp, hn, hc, go_sem]
        exact rfl
      apply go_val pre_kept
      · rintro ρ wr ⟨hg, hn, hc, hf, hgl⟩
        simp only [Need, fat, List.nil_append, List.cons_append, List.getD_cons_zero, List.getD_cons_succ, Fct.hold, and_true] at hn
        have hl := And.intro (hg.cell c0) (hg.cell c1)
        refine ⟨by simp [wantP, hn], ?_⟩
        simp [execOp, hn, hc, hl, go_sem]
        exact rfl
      apply go_val pre_kept
      · rintro ρ wr ⟨hg, hn, hc, hf, hgl⟩
        simp only [Need, fat, List.nil_append, List.cons_append, List.getD_cons_zero, List.getD_cons_succ, Fct.hold, and_true] at hn
        refine ⟨by simp [wantP, hn], ?_⟩
        simp [execOp, hn, hc, go_sem]
        exact rfl
      apply go_val pre_kept
      · rintro ρ wr ⟨hg, hn, hc, hf, hgl⟩
        simp only [Need, fat, List.nil_append, List.cons_append, List.getD_cons_zero, List.getD_cons_succ, Fct.hold, and_true] at hn
        refine ⟨by simp [wantP, hn], ?_⟩
        simp [execOp, hn, hc, go_sem]
        exact rfl
      apply go_val pre_kept
      · rintro ρ wr ⟨hg, hn, hc, hf, hgl⟩
        simp only [Need, fat, List.nil_append, List.cons_append, List.getD_cons_zero, List.getD_cons_succ, Fct.hold, and_true] at hn
        refine ⟨by simp [wantP, hn], ?_⟩
        simp [execOp, hn, hc, go_sem]
        exact rfl
      apply go_val pre_kept
      · rintro ρ wr ⟨hg, hn, hc, hf, hgl⟩
        simp only [Need, fat, List.nil_append, List.cons_append, List.getD_cons_zero, List.getD_cons_succ, Fct.hold, and_true] at hn
        have hl := And.intro (hg.cell c0) (hg.cell c1)
        refine ⟨by simp [wantP, hn], ?_⟩
        simp [execOp, hn, hc, hl, go_sem]
        exact rfl
      apply go_val pre_kept
      · rintro ρ wr ⟨hg, hn, hc, hf, hgl⟩
        simp only [Need, fat, List.nil_append, List.cons_append, List.getD_cons_zero, List.getD_cons_succ, Fct.hold, and_true] at hn
        refine ⟨by simp [wantP, hn], ?_⟩
        simp [execOp, hn, hc, go_sem]
        exact rfl
      apply go_val (x := .bool false) pre_kept
      · rintro ρ wr ⟨hg, hn, hc, hf, hgl⟩
        simp only [Need, fat, List.nil_append, List.cons_append, List.getD_cons_zero, List.getD_cons_succ, Fct.hold, and_true] at hn
        refine ⟨by simp [wantP, hn], ?_⟩
        simp [execOp, hn, hc, go_sem, hlt]
      apply go_val pre_kept
      · rintro ρ wr ⟨hg, hn, hc, hf, hgl⟩
        simp only [Need, fat, List.nil_append, List.cons_append, List.getD_cons_zero, List.getD_cons_succ, Fct.hold, and_true] at hn
        refine ⟨by simp [wantP, hn], ?_⟩
        simp [execOp, hn, hc, go_sem]
        exact rfl
      refine go_not pre_kept ?_ ?_
      · rintro ρ wr ⟨hg, hn, hc, hf, hgl⟩
        simp only [Need, fat, List.nil_append, List.cons_append, List.getD_cons_zero, List.getD_cons_succ, Fct.hold, and_true] at hn
        simp [wantP, hn]
      refine go_not pre_kept ?_ ?_
      · rintro ρ wr ⟨hg, hn, hc, hf, hgl⟩
        simp only [Need, fat, List.nil_append, List.cons_append, List.getD_cons_zero, List.getD_cons_succ, Fct.hold, and_true] at hn
        simp [wantP, hn]
      refine go_not pre_kept ?_ ?_
      · rintro ρ wr ⟨hg, hn, hc, hf, hgl⟩
        simp only [Need, fat, List.nil_append, List.cons_append, List.getD_cons_zero, List.getD_cons_succ, Fct.hold, and_true] at hn
        simp [wantP, hn]
      apply go_val (x := .bool false) pre_kept
      · rintro ρ wr ⟨hg, hn, hc, hf, hgl⟩
        simp only [Need, fat, List.nil_append, List.cons_append, List.getD_cons_zero, List.getD_cons_succ, Fct.hold, and_true] at hn
        refine ⟨by simp [wantP, hn], ?_⟩
        simp [execOp, hn, hc, go_sem]
      apply go_val (x := .bool false) pre_kept
      · rintro ρ wr ⟨hg, hn, hc, hf, hgl⟩
        simp only [Need, fat, List.nil_append, List.cons_append, List.getD_cons_zero, List.getD_cons_succ, Fct.hold, and_true] at hn
        refine ⟨by simp [wantP, hn], ?_⟩
        simp [execOp, hn, hc, go_sem]
      refine go_not pre_kept ?_ ?_
      · rintro ρ wr ⟨hg, hn, hc, hf, hgl⟩
        simp only [Need, fat, List.nil_append, List.cons_append, List.getD_cons_zero, List.getD_cons_succ, Fct.hold, and_true] at hn
        simp [wantP, hn]
      refine go_not pre_kept ?_ ?_
      · rintro ρ wr ⟨hg, hn, hc, hf, hgl⟩
        simp only [Need, fat, List.nil_append, List.cons_append, List.getD_cons_zero, List.getD_cons_succ, Fct.hold, and_true] at hn
        simp [wantP, hn]
      refine go_not pre_kept ?_ ?_
      · rintro ρ wr ⟨hg, hn, hc, hf, hgl⟩
        simp only [Need, fat, List.nil_append, List.cons_append, List.getD_cons_zero, List.getD_cons_succ, Fct.hold, and_true] at hn
        simp [wantP, hn]
      apply go_val (x := .bool false) pre_kept
      · rintro ρ wr ⟨hg, hn, hc, hf, hgl⟩
        simp only [Need, fat, List.nil_append, List.cons_append, List.getD_cons_zero, List.getD_cons_succ, Fct.hold, and_true] at hn
        refine ⟨by simp [wantP, hn], ?_⟩
        simp [execOp, hn, hc, go_sem]
      intro w2 hk2
      simp only [Post, List.nil_append, List.cons_append, Act.put, List.setIfInBounds_toArray, List.set_cons_zero, List.set_cons_succ]
      rename_i hK
      refine hK _ _ ?_
      clear hK
      replace H := Lib.hid (H.out.drawn hk2)
      replace HW := Lib.hid (HW.out.kept ((Kept.drew (Kept.refl _)).trans hk2))
      clear hk2 c0 c1 c2 f0 f1 f2
      have HG := Lib.hid (gather_any 2 (w.heap.size + 1) _ acc w2 HW.out (by have := HL.out; omega))
      obtain ⟨vs, hv1, -, -⟩ := HW.out
      obtain ⟨A0, cap0, rfl⟩ := hv1.form
      clear hv1 HW
      go_wp2_with fail
      refine HG.out.mono ?_
      rintro e w5 ⟨u, rfl, hx, h2⟩
      obtain ⟨o1, s1, A1, n1, p1, rfl⟩ := hx.form
      have HX := Lib.hid hx
      replace H := Lib.hid (H.out.kept h2)
      clear h2 hx HG
      obtain ⟨⟨d0, d1, d2, d3, d4, d5⟩, g0, g1, g2, g3, g4, g5⟩ := box6 (H.out.blk List.mem_cons_self)
      have HF := Lib.hid (ret_pass H.out HX.out)
      simp only [re6_form, wd_eq] at HF ⊢
      go_wp2_with fail
      refine bodyPost_ret (v := .tuple #[re6 o1 s1 (.slice A1 n1 p1), .int .i64 0]) ?_ rfl ?_
      · simp [results, Try.results23, go_sem, re6_form, d0, d1, d2, d3, d4, d5]
      · rw [HE.out]
        exact ⟨_, rfl, HF.out⟩
    have hlt : (j : Int) < s.size := by omega
    cases hb1 : byteAt s j == some 124 with
    | true =>
      have HE : Hid (R = .ok (gather 2 acc) j) := Lib.hid (by rw [← HR.out, seqL_off (by unfold goesOn; simp [beq_iff_eq.1 hb1])])
      have HB1 := Lib.hid hb1
      clear HR hb1
      go_wp2_with fail
      refine wp_region_go Kept pre_kept [([(0, none)], none), ([(7, some 0)], none), ([(8, some 1)], none), ([(9, some 2)], none), ([(0, none)], none), ([(11, some 4)], none), ([(12, some 5)], none), ([(13, some 6)], none), ([(14, some 7)], none), ([(10, some 3), (15, some 8)], none), ([(16, some 9)], none), ([(0, none), (17, some 10)], some (17, true)), ([(18, some 11), (17, some 10)], some (17, true)), ([(19, some 12), (17, some 10)], some (17, true)), ([(17, some 10), (20, some 13)], none), ([(21, some 14)], none), ([(0, none), (22, some 15)], some (22, true)), ([(23, some 16), (22, some 15)], some (22, true)), ([(24, some 17), (22, some 15)], some (22, true)), ([(22, some 15), (25, some 18)], none)] (by kernel_rfl) 42 rfl (by kernel_rfl) (by kernel_rfl) ?_
      apply go_val pre_kept
      · rintro ρ wr ⟨hg, hn, hc, hf, hgl⟩
        simp only [Need, fat, List.nil_append, List.cons_append, List.getD_cons_zero, List.getD_cons_succ, Fct.hold, and_true] at hn
        refine ⟨by simp [wantP, hn], ?_⟩
        simp [execOp, hn, hc, go_sem]
        exact rfl
      apply go_val pre_kept
      · rintro ρ wr ⟨hg, hn, hc, hf, hgl⟩
        simp only [Need, fat, List.nil_append, List.cons_append, List.getD_cons_zero, List.getD_cons_succ, Fct.hold, and_true] at hn
        refine ⟨by simp [wantP, hn], ?_⟩
        simp [execOp, hn, hc, go_sem]
        exact rfl
      apply go_val pre_kept
      · rintro ρ wr ⟨hg, hn, hc, hf, hgl⟩
        simp only [Need, fat, List.nil_append, List.cons_append, List.getD_cons_zero, List.getD_cons_succ, Fct.hold, and_true] at hn
        refine ⟨by simp [wantP, hn], ?_⟩
        simp [execOp, hn, hc, go_sem]
        exact rfl
      apply go_val pre_kept
      · rintro ρ wr ⟨hg, hn, hc, hf, hgl⟩
        simp only [Need, fat, List.nil_append, List.cons_append, List.getD_cons_zero, List.getD_cons_succ, Fct.hold, and_true] at hn
        have hl := And.intro (hg.cell c0) (hg.cell c1)
        refine ⟨by simp [wantP, hn], ?_⟩
        simp [execOp, hn, hc, hl, go_sem]
        exact rfl
      apply go_val pre_kept
      · rintro ρ wr ⟨hg, hn, hc, hf, hgl⟩
        simp only [Need, fat, List.nil_append, List.cons_append, List.getD_cons_zero, List.getD_cons_succ, Fct.hold, and_true] at hn
        refine ⟨by simp [wantP, hn], ?_⟩
        simp [execOp, hn, hc, go_sem]
        exact rfl
      apply go_val pre_kept
      · rintro ρ wr ⟨hg, hn, hc, hf, hgl⟩
        simp only [Need, fat, List.nil_append, List.cons_append, List.getD_cons_zero, List.getD_cons_succ, Fct.hold, and_true] at hn
        refine ⟨by simp [wantP, hn], ?_⟩
        simp [execOp, hn, hc, go_sem]
        exact rfl
      apply go_val pre_kept
      · rintro ρ wr ⟨hg, hn, hc, hf, hgl⟩
        simp only [Need, fat, List.nil_append, List.cons_append, List.getD_cons_zero, List.getD_cons_succ, Fct.hold, and_true] at hn
        refine ⟨by simp [wantP, hn], ?_⟩
        simp [execOp, hn, hc, go_sem]
        exact rfl
      apply go_val pre_kept
      · rintro ρ wr ⟨hg, hn, hc, hf, hgl⟩
        simp only [Need, fat, List.nil_append, List.cons_append, List.getD_cons_zero, List.getD_cons_succ, Fct.hold, and_true] at hn
        have hl := And.intro (hg.cell c0) (hg.cell c1)
        refine ⟨by simp [wantP, hn], ?_⟩
        simp [execOp, hn, hc, hl, go_sem]
        exact rfl
      apply go_val pre_kept
      · rintro ρ wr ⟨hg, hn, hc, hf, hgl⟩
        simp only [Need, fat, List.nil_append, List.cons_append, List.getD_cons_zero, List.getD_cons_succ, Fct.hold, and_true] at hn
        refine ⟨by simp [wantP, hn], ?_⟩
        simp [execOp, hn, hc, go_sem]
        exact rfl
      apply go_val (x := .bool true) pre_kept
      · rintro ρ wr ⟨hg, hn, hc, hf, hgl⟩
        simp only [Need, fat, List.nil_append, List.cons_append, List.getD_cons_zero, List.getD_cons_succ, Fct.hold, and_true] at hn
        refine ⟨by simp [wantP, hn], ?_⟩
        simp [execOp, hn, hc, go_sem, hlt]
      apply go_val pre_kept
      · rintro ρ wr ⟨hg, hn, hc, hf, hgl⟩
        simp only [Need, fat, List.nil_append, List.cons_append, List.getD_cons_zero, List.getD_cons_succ, Fct.hold, and_true] at hn
        refine ⟨by simp [wantP, hn], ?_⟩
        simp [execOp, hn, hc, go_sem]
        exact rfl
      apply go_val pre_kept
      · rintro ρ wr ⟨hg, hn, hc, hf, hgl⟩
        simp only [Need, fat, List.nil_append, List.cons_append, List.getD_cons_zero, List.getD_cons_succ, Fct.hold, and_true] at hn
        refine ⟨by simp [wantP, hn], ?_⟩
        simp [execOp, hn, hc, go_sem]
        exact rfl
      apply go_callv (x := .bool true)
      · rintro ρ wr ⟨hg, hn, hc, hf, hgl⟩
        simp only [Need, fat, List.nil_append, List.cons_append, List.getD_cons_zero, List.getD_cons_succ, Fct.hold, and_true] at hn
        refine ⟨by simp [wantP, hn], _, _, by simp [execOp, hn, hf, hc, resolve, invoke, go_sem]; exact ⟨rfl, rfl⟩, ?_⟩
        exact (sees_any g s j op 124 _ (H.out.1.kept ((Kept.drew (Kept.refl _)).trans hg))).mono fun e w' ⟨h1, h2⟩ => ⟨_, h1, by rw [HB1.out], h2⟩
      apply go_val (x := .bool false) pre_kept
      · rintro ρ wr ⟨hg, hn, hc, hf, hgl⟩
        simp only [Need, fat, List.nil_append, List.cons_append, List.getD_cons_zero, List.getD_cons_succ, Fct.hold, and_true] at hn
        refine ⟨by simp [wantP, hn], ?_⟩
        simp [execOp, hn, hc, go_sem]
      apply go_val (x := .bool false) pre_kept
      · rintro ρ wr ⟨hg, hn, hc, hf, hgl⟩
        simp only [Need, fat, List.nil_append, List.cons_append, List.getD_cons_zero, List.getD_cons_succ, Fct.hold, and_true] at hn
        refine ⟨by simp [wantP, hn], ?_⟩
        simp [execOp, hn, hc, go_sem]
      apply go_val (x := .bool false) pre_kept
      · rintro ρ wr ⟨hg, hn, hc, hf, hgl⟩
        simp only [Need, fat, List.nil_append, List.cons_append, List.getD_cons_zero, List.getD_cons_succ, Fct.hold, and_true] at hn
        refine ⟨by simp [wantP, hn], ?_⟩
        simp [execOp, hn, hc, go_sem]
      refine go_not pre_kept ?_ ?_
      · rintro ρ wr ⟨hg, hn, hc, hf, hgl⟩
        simp only [Need, fat, List.nil_append, List.cons_append, List.getD_cons_zero, List.getD_cons_succ, Fct.hold, and_true] at hn
        simp [wantP, hn]
      refine go_not pre_kept ?_ ?_
      · rintro ρ wr ⟨hg, hn, hc, hf, hgl⟩
        simp only [Need, fat, List.nil_append, List.cons_append, List.getD_cons_zero, List.getD_cons_succ, Fct.hold, and_true] at hn
        simp [wantP, hn]
      refine go_not pre_kept ?_ ?_
      · rintro ρ wr ⟨hg, hn, hc, hf, hgl⟩
        simp only [Need, fat, List.nil_append, List.cons_append, List.getD_cons_zero, List.getD_cons_succ, Fct.hold, and_true] at hn
        simp [wantP, hn]
      apply go_val (x := .bool false) pre_kept
      · rintro ρ wr ⟨hg, hn, hc, hf, hgl⟩
        simp only [Need, fat, List.nil_append, List.cons_append, List.getD_cons_zero, List.getD_cons_succ, Fct.hold, and_true] at hn
        refine ⟨by simp [wantP, hn], ?_⟩
        simp [execOp, hn, hc, go_sem]
      intro w2 hk2
      simp only [Post, List.nil_append, List.cons_append, Act.put, List.setIfInBounds_toArray, List.set_cons_zero, List.set_cons_succ]
      rename_i hK
      refine hK _ _ ?_
      clear hK
      replace H := Lib.hid (H.out.drawn hk2)
      replace HW := Lib.hid (HW.out.kept ((Kept.drew (Kept.refl _)).trans hk2))
      clear hk2 c0 c1 c2 f0 f1 f2
      have HG := Lib.hid (gather_any 2 (w.heap.size + 1) _ acc w2 HW.out (by have := HL.out; omega))
      obtain ⟨vs, hv1, -, -⟩ := HW.out
      obtain ⟨A0, cap0, rfl⟩ := hv1.form
      clear hv1 HW
      go_wp2_with fail
      refine HG.out.mono ?_
      rintro e w5 ⟨u, rfl, hx, h2⟩
      obtain ⟨o1, s1, A1, n1, p1, rfl⟩ := hx.form
      have HX := Lib.hid hx
      replace H := Lib.hid (H.out.kept h2)
      clear h2 hx HG
      obtain ⟨⟨d0, d1, d2, d3, d4, d5⟩, g0, g1, g2, g3, g4, g5⟩ := box6 (H.out.blk List.mem_cons_self)
      have HF := Lib.hid (ret_pass H.out HX.out)
      simp only [re6_form, wd_eq] at HF ⊢
      go_wp2_with fail
      refine bodyPost_ret (v := .tuple #[re6 o1 s1 (.slice A1 n1 p1), .int .i64 0]) ?_ rfl ?_
      · simp [results, Try.results23, go_sem, re6_form, d0, d1, d2, d3, d4, d5]
      · rw [HE.out]
        exact ⟨_, rfl, HF.out⟩
    | false =>
      cases hb2 : byteAt s j == some 41 with
      | true =>
        have HE : Hid (R = .ok (gather 2 acc) j) := Lib.hid (by rw [← HR.out, seqL_off (by unfold goesOn; simp [beq_iff_eq.1 hb2])])
        have HB1 := Lib.hid hb1
        have HB2 := Lib.hid hb2
        clear HR hb1 hb2
        go_wp2_with fail
        refine wp_region_go Kept pre_kept [([(0, none)], none), ([(7, some 0)], none), ([(8, some 1)], none), ([(9, some 2)], none), ([(0, none)], none), ([(11, some 4)], none), ([(12, some 5)], none), ([(13, some 6)], none), ([(14, some 7)], none), ([(10, some 3), (15, some 8)], none), ([(16, some 9)], none), ([(0, none), (17, some 10)], some (17, true)), ([(18, some 11), (17, some 10)], some (17, true)), ([(19, some 12), (17, some 10)], some (17, true)), ([(17, some 10), (20, some 13)], none), ([(21, some 14)], none), ([(0, none), (22, some 15)], some (22, true)), ([(23, some 16), (22, some 15)], some (22, true)), ([(24, some 17), (22, some 15)], some (22, true)), ([(22, some 15), (25, some 18)], none)] (by kernel_rfl) 42 rfl (by kernel_rfl) (by kernel_rfl) ?_
        apply go_val pre_kept
        · rintro ρ wr ⟨hg, hn, hc, hf, hgl⟩
          simp only [Need, fat, List.nil_append, List.cons_append, List.getD_cons_zero, List.getD_cons_succ, Fct.hold, and_true] at hn
          refine ⟨by simp [wantP, hn], ?_⟩
          simp [execOp, hn, hc, go_sem]
          exact rfl
        apply go_val pre_kept
        · rintro ρ wr ⟨hg, hn, hc, hf, hgl⟩
          simp only [Need, fat, List.nil_append, List.cons_append, List.getD_cons_zero, List.getD_cons_succ, Fct.hold, and_true] at hn
          refine ⟨by simp [wantP, hn], ?_⟩
          simp [execOp, hn, hc, go_sem]
          exact rfl
        apply go_val pre_kept
        · rintro ρ wr ⟨hg, hn, hc, hf, hgl⟩
          simp only [Need, fat, List.nil_append, List.cons_append, List.getD_cons_zero, List.getD_cons_succ, Fct.hold, and_true] at hn
          refine ⟨by simp [wantP, hn], ?_⟩
          simp [execOp, hn, hc, go_sem]
          exact rfl
        apply go_val pre_kept
        · rintro ρ wr ⟨hg, hn, hc, hf, hgl⟩
          simp only [Need, fat, List.nil_append, List.cons_append, List.getD_cons_zero, List.getD_cons_succ, Fct.hold, and_true] at hn
          have hl := And.intro (hg.cell c0) (hg.cell c1)
          refine ⟨by simp [wantP, hn], ?_⟩
          simp [execOp, hn, hc, hl, go_sem]
          exact rfl
        apply go_val pre_kept
        · rintro ρ wr ⟨hg, hn, hc, hf, hgl⟩
          simp only [Need, fat, List.nil_append, List.cons_append, List.getD_cons_zero, List.getD_cons_succ, Fct.hold, and_true] at hn
          refine ⟨by simp [wantP, hn], ?_⟩
          simp [execOp, hn, hc, go_sem]
          exact rfl
        apply go_val pre_kept
        · rintro ρ wr ⟨hg, hn, hc, hf, hgl⟩
          simp only [Need, fat, List.nil_append, List.cons_append, List.getD_cons_zero, List.getD_cons_succ, Fct.hold, and_true] at hn
          refine ⟨by simp [wantP, hn], ?_⟩
          simp [execOp, hn, hc, go_sem]
          exact rfl
        apply go_val pre_kept
        · rintro ρ wr ⟨hg, hn, hc, hf, hgl⟩
          simp only [Need, fat, List.nil_append, List.cons_append, List.getD_cons_zero, List.getD_cons_succ, Fct.hold, and_true] at hn
          refine ⟨by simp [wantP, hn], ?_⟩
          simp [execOp, hn, hc, go_sem]
          exact rfl
        apply go_val pre_kept
        · rintro ρ wr ⟨hg, hn, hc, hf, hgl⟩
          simp only [Need, fat, List.nil_append, List.cons_append, List.getD_cons_zero, List.getD_cons_succ, Fct.hold, and_true] at hn
          have hl := And.intro (hg.cell c0) (hg.cell c1)
          refine ⟨by simp [wantP, hn], ?_⟩
          simp [execOp, hn, hc, hl, go_sem]
          exact rfl
        apply go_val pre_kept
        · rintro ρ wr ⟨hg, hn, hc, hf, hgl⟩
          simp only [Need, fat, List.nil_append, List.cons_append, List.getD_cons_zero, List.getD_cons_succ, Fct.hold, and_true] at hn
          refine ⟨by simp [wantP, hn], ?_⟩
          simp [execOp, hn, hc, go_sem]
          exact rfl
        apply go_val (x := .bool true) pre_kept
        · rintro ρ wr ⟨hg, hn, hc, hf, hgl⟩
          simp only [Need, fat, List.nil_append, List.cons_append, List.getD_cons_zero, List.getD_cons_succ, Fct.hold, and_true] at hn
          refine ⟨by simp [wantP, hn], ?_⟩
          simp [execOp, hn, hc, go_sem, hlt]
        apply go_val pre_kept
        · rintro ρ wr ⟨hg, hn, hc, hf, hgl⟩
          simp only [Need, fat, List.nil_append, List.cons_append, List.getD_cons_zero, List.getD_cons_succ, Fct.hold, and_true] at hn
          refine ⟨by simp [wantP, hn], ?_⟩
          simp [execOp, hn, hc, go_sem]
          exact rfl
        apply go_val pre_kept
        · rintro ρ wr ⟨hg, hn, hc, hf, hgl⟩
          simp only [Need, fat, List.nil_append, List.cons_append, List.getD_cons_zero, List.getD_cons_succ, Fct.hold, and_true] at hn
          refine ⟨by simp [wantP, hn], ?_⟩
          simp [execOp, hn, hc, go_sem]
          exact rfl
        apply go_callv (x := .bool false)
        · rintro ρ wr ⟨hg, hn, hc, hf, hgl⟩
          simp only [Need, fat, List.nil_append, List.cons_append, List.getD_cons_zero, List.getD_cons_succ, Fct.hold, and_true] at hn
          refine ⟨by simp [wantP, hn], _, _, by simp [execOp, hn, hf, hc, resolve, invoke, go_sem]; exact ⟨rfl, rfl⟩, ?_⟩
          exact (sees_any g s j op 124 _ (H.out.1.kept ((Kept.drew (Kept.refl _)).trans hg))).mono fun e w' ⟨h1, h2⟩ => ⟨_, h1, by rw [HB1.out], h2⟩
        apply go_val (x := .bool true) pre_kept
        · rintro ρ wr ⟨hg, hn, hc, hf, hgl⟩
          simp only [Need, fat, List.nil_append, List.cons_append, List.getD_cons_zero, List.getD_cons_succ, Fct.hold, and_true] at hn
          refine ⟨by simp [wantP, hn], ?_⟩
          simp [execOp, hn, hc, go_sem]
        apply go_val (x := .bool true) pre_kept
        · rintro ρ wr ⟨hg, hn, hc, hf, hgl⟩
          simp only [Need, fat, List.nil_append, List.cons_append, List.getD_cons_zero, List.getD_cons_succ, Fct.hold, and_true] at hn
          refine ⟨by simp [wantP, hn], ?_⟩
          simp [execOp, hn, hc, go_sem]
        apply go_val (x := .bool true) pre_kept
        · rintro ρ wr ⟨hg, hn, hc, hf, hgl⟩
          simp only [Need, fat, List.nil_append, List.cons_append, List.getD_cons_zero, List.getD_cons_succ, Fct.hold, and_true] at hn
          refine ⟨by simp [wantP, hn], ?_⟩
          simp [execOp, hn, hc, go_sem]
        apply go_val pre_kept
        · rintro ρ wr ⟨hg, hn, hc, hf, hgl⟩
          simp only [Need, fat, List.nil_append, List.cons_append, List.getD_cons_zero, List.getD_cons_succ, Fct.hold, and_true] at hn
          refine ⟨by simp [wantP, hn], ?_⟩
          simp [execOp, hn, hc, go_sem]
          exact rfl
        apply go_callv (x := .bool true)
        · rintro ρ wr ⟨hg, hn, hc, hf, hgl⟩
          simp only [Need, fat, List.nil_append, List.cons_append, List.getD_cons_zero, List.getD_cons_succ, Fct.hold, and_true] at hn
          refine ⟨by simp [wantP, hn], _, _, by simp [execOp, hn, hf, hc, resolve, invoke, go_sem]; exact ⟨rfl, rfl⟩, ?_⟩
          exact (sees_any g s j op 41 _ (H.out.1.kept ((Kept.drew (Kept.refl _)).trans hg))).mono fun e w' ⟨h1, h2⟩ => ⟨_, h1, by rw [HB2.out], h2⟩
        apply go_val (x := .bool false) pre_kept
        · rintro ρ wr ⟨hg, hn, hc, hf, hgl⟩
          simp only [Need, fat, List.nil_append, List.cons_append, List.getD_cons_zero, List.getD_cons_succ, Fct.hold, and_true] at hn
          refine ⟨by simp [wantP, hn], ?_⟩
          simp [execOp, hn, hc, go_sem]
        apply go_val (x := .bool false) pre_kept
        · rintro ρ wr ⟨hg, hn, hc, hf, hgl⟩
          simp only [Need, fat, List.nil_append, List.cons_append, List.getD_cons_zero, List.getD_cons_succ, Fct.hold, and_true] at hn
          refine ⟨by simp [wantP, hn], ?_⟩
          simp [execOp, hn, hc, go_sem]
        intro w2 hk2
        simp only [Post, List.nil_append, List.cons_append, Act.put, List.setIfInBounds_toArray, List.set_cons_zero, List.set_cons_succ]
        rename_i hK
        refine hK _ _ ?_
        clear hK
        replace H := Lib.hid (H.out.drawn hk2)
        replace HW := Lib.hid (HW.out.kept ((Kept.drew (Kept.refl _)).trans hk2))
        clear hk2 c0 c1 c2 f0 f1 f2
        have HG := Lib.hid (gather_any 2 (w.heap.size + 1) _ acc w2 HW.out (by have := HL.out; omega))
        obtain ⟨vs, hv1, -, -⟩ := HW.out
        obtain ⟨A0, cap0, rfl⟩ := hv1.form
        clear hv1 HW
        go_wp2_with fail
        refine HG.out.mono ?_
        rintro e w5 ⟨u, rfl, hx, h2⟩
        obtain ⟨o1, s1, A1, n1, p1, rfl⟩ := hx.form
        have HX := Lib.hid hx
        replace H := Lib.hid (H.out.kept h2)
        clear h2 hx HG
        obtain ⟨⟨d0, d1, d2, d3, d4, d5⟩, g0, g1, g2, g3, g4, g5⟩ := box6 (H.out.blk List.mem_cons_self)
        have HF := Lib.hid (ret_pass H.out HX.out)
        simp only [re6_form, wd_eq] at HF ⊢
        go_wp2_with fail
        refine bodyPost_ret (v := .tuple #[re6 o1 s1 (.slice A1 n1 p1), .int .i64 0]) ?_ rfl ?_
        · simp [results, Try.results23, go_sem, re6_form, d0, d1, d2, d3, d4, d5]
        · rw [HE.out]
          exact ⟨_, rfl, HF.out⟩
      | false =>
        have hon : goesOn s j = true := by unfold goesOn; simp only [hlt0, decide_true, bne, hb1, hb2]; rfl
        have hun := HR.out
        rw [seqL_on hon] at hun
        have hfw := HQ.out.2 j hlt0
        have HUN := Lib.hid (And.intro hun hfw)
        have HB1 := Lib.hid hb1
        have HB2 := Lib.hid hb2
        clear HR hb1 hb2 hon hun hfw
        go_wp2_with fail
        refine wp_region_go Kept pre_kept [([(0, none)], none), ([(7, some 0)], none), ([(8, some 1)], none), ([(9, some 2)], none), ([(0, none)], none), ([(11, some 4)], none), ([(12, some 5)], none), ([(13, some 6)], none), ([(14, some 7)], none), ([(10, some 3), (15, some 8)], none), ([(16, some 9)], none), ([(0, none), (17, some 10)], some (17, true)), ([(18, some 11), (17, some 10)], some (17, true)), ([(19, some 12), (17, some 10)], some (17, true)), ([(17, some 10), (20, some 13)], none), ([(21, some 14)], none), ([(0, none), (22, some 15)], some (22, true)), ([(23, some 16), (22, some 15)], some (22, true)), ([(24, some 17), (22, some 15)], some (22, true)), ([(22, some 15), (25, some 18)], none)] (by kernel_rfl) 42 rfl (by kernel_rfl) (by kernel_rfl) ?_
        apply go_val pre_kept
        · rintro ρ wr ⟨hg, hn, hc, hf, hgl⟩
          simp only [Need, fat, List.nil_append, List.cons_append, List.getD_cons_zero, List.getD_cons_succ, Fct.hold, and_true] at hn
          refine ⟨by simp [wantP, hn], ?_⟩
          simp [execOp, hn, hc, go_sem]
          exact rfl
        apply go_val pre_kept
        · rintro ρ wr ⟨hg, hn, hc, hf, hgl⟩
          simp only [Need, fat, List.nil_append, List.cons_append, List.getD_cons_zero, List.getD_cons_succ, Fct.hold, and_true] at hn
          refine ⟨by simp [wantP, hn], ?_⟩
          simp [execOp, hn, hc, go_sem]
          exact rfl
        apply go_val pre_kept
        · rintro ρ wr ⟨hg, hn, hc, hf, hgl⟩
          simp only [Need, fat, List.nil_append, List.cons_append, List.getD_cons_zero, List.getD_cons_succ, Fct.hold, and_true] at hn
          refine ⟨by simp [wantP, hn], ?_⟩
          simp [execOp, hn, hc, go_sem]
          exact rfl
        apply go_val pre_kept
        · rintro ρ wr ⟨hg, hn, hc, hf, hgl⟩
          simp only [Need, fat, List.nil_append, List.cons_append, List.getD_cons_zero, List.getD_cons_succ, Fct.hold, and_true] at hn
          have hl := And.intro (hg.cell c0) (hg.cell c1)
          refine ⟨by simp [wantP, hn], ?_⟩
          simp [execOp, hn, hc, hl, go_sem]
          exact rfl
        apply go_val pre_kept
        · rintro ρ wr ⟨hg, hn, hc, hf, hgl⟩
          simp only [Need, fat, List.nil_append, List.cons_append, List.getD_cons_zero, List.getD_cons_succ, Fct.hold, and_true] at hn
          refine ⟨by simp [wantP, hn], ?_⟩
          simp [execOp, hn, hc, go_sem]
          exact rfl
        apply go_val pre_kept
        · rintro ρ wr ⟨hg, hn, hc, hf, hgl⟩
          simp only [Need, fat, List.nil_append, List.cons_append, List.getD_cons_zero, List.getD_cons_succ, Fct.hold, and_true] at hn
          refine ⟨by simp [wantP, hn], ?_⟩
          simp [execOp, hn, hc, go_sem]
          exact rfl
        apply go_val pre_kept
        · rintro ρ wr ⟨hg, hn, hc, hf, hgl⟩
          simp only [Need, fat, List.nil_append, List.cons_append, List.getD_cons_zero, List.getD_cons_succ, Fct.hold, and_true] at hn
          refine ⟨by simp [wantP, hn], ?_⟩
          simp [execOp, hn, hc, go_sem]
          exact rfl
        apply go_val pre_kept
        · rintro ρ wr ⟨hg, hn, hc, hf, hgl⟩
          simp only [Need, fat, List.nil_append, List.cons_append, List.getD_cons_zero, List.getD_cons_succ, Fct.hold, and_true] at hn
          have hl := And.intro (hg.cell c0) (hg.cell c1)
          refine ⟨by simp [wantP, hn], ?_⟩
          simp [execOp, hn, hc, hl, go_sem]
          exact rfl
        apply go_val pre_kept
        · rintro ρ wr ⟨hg, hn, hc, hf, hgl⟩
          simp only [Need, fat, List.nil_append, List.cons_append, List.getD_cons_zero, List.getD_cons_succ, Fct.hold, and_true] at hn
          refine ⟨by simp [wantP, hn], ?_⟩
          simp [execOp, hn, hc, go_sem]
          exact rfl
        apply go_val (x := .bool true) pre_kept
        · rintro ρ wr ⟨hg, hn, hc, hf, hgl⟩
          simp only [Need, fat, List.nil_append, List.cons_append, List.getD_cons_zero, List.getD_cons_succ, Fct.hold, and_true] at hn
          refine ⟨by simp [wantP, hn], ?_⟩
          simp [execOp, hn, hc, go_sem, hlt]
        apply go_val pre_kept
        · rintro ρ wr ⟨hg, hn, hc, hf, hgl⟩
          simp only [Need, fat, List.nil_append, List.cons_append, List.getD_cons_zero, List.getD_cons_succ, Fct.hold, and_true] at hn
          refine ⟨by simp [wantP, hn], ?_⟩
          simp [execOp, hn, hc, go_sem]
          exact rfl
        apply go_val pre_kept
        · rintro ρ wr ⟨hg, hn, hc, hf, hgl⟩
          simp only [Need, fat, List.nil_append, List.cons_append, List.getD_cons_zero, List.getD_cons_succ, Fct.hold, and_true] at hn
          refine ⟨by simp [wantP, hn], ?_⟩
          simp [execOp, hn, hc, go_sem]
          exact rfl
        apply go_callv (x := .bool false)
        · rintro ρ wr ⟨hg, hn, hc, hf, hgl⟩
          simp only [Need, fat, List.nil_append, List.cons_append, List.getD_cons_zero, List.getD_cons_succ, Fct.hold, and_true] at hn
          refine ⟨by simp [wantP, hn], _, _, by simp [execOp, hn, hf, hc, resolve, invoke, go_sem]; exact ⟨rfl, rfl⟩, ?_⟩
          exact (sees_any g s j op 124 _ (H.out.1.kept ((Kept.drew (Kept.refl _)).trans hg))).mono fun e w' ⟨h1, h2⟩ => ⟨_, h1, by rw [HB1.out], h2⟩
        apply go_val (x := .bool true) pre_kept
        · rintro ρ wr ⟨hg, hn, hc, hf, hgl⟩
          simp only [Need, fat, List.nil_append, List.cons_append, List.getD_cons_zero, List.getD_cons_succ, Fct.hold, and_true] at hn
          refine ⟨by simp [wantP, hn], ?_⟩
          simp [execOp, hn, hc, go_sem]
        apply go_val (x := .bool true) pre_kept
        · rintro ρ wr ⟨hg, hn, hc, hf, hgl⟩
          simp only [Need, fat, List.nil_append, List.cons_append, List.getD_cons_zero, List.getD_cons_succ, Fct.hold, and_true] at hn
          refine ⟨by simp [wantP, hn], ?_⟩
          simp [execOp, hn, hc, go_sem]
        apply go_val (x := .bool true) pre_kept
        · rintro ρ wr ⟨hg, hn, hc, hf, hgl⟩
          simp only [Need, fat, List.nil_append, List.cons_append, List.getD_cons_zero, List.getD_cons_succ, Fct.hold, and_true] at hn
          refine ⟨by simp [wantP, hn], ?_⟩
          simp [execOp, hn, hc, go_sem]
        apply go_val pre_kept
        · rintro ρ wr ⟨hg, hn, hc, hf, hgl⟩
          simp only [Need, fat, List.nil_append, List.cons_append, List.getD_cons_zero, List.getD_cons_succ, Fct.hold, and_true] at hn
          refine ⟨by simp [wantP, hn], ?_⟩
          simp [execOp, hn, hc, go_sem]
          exact rfl
        apply go_callv (x := .bool false)
        · rintro ρ wr ⟨hg, hn, hc, hf, hgl⟩
          simp only [Need, fat, List.nil_append, List.cons_append, List.getD_cons_zero, List.getD_cons_succ, Fct.hold, and_true] at hn
          refine ⟨by simp [wantP, hn], _, _, by simp [execOp, hn, hf, hc, resolve, invoke, go_sem]; exact ⟨rfl, rfl⟩, ?_⟩
          exact (sees_any g s j op 41 _ (H.out.1.kept ((Kept.drew (Kept.refl _)).trans hg))).mono fun e w' ⟨h1, h2⟩ => ⟨_, h1, by rw [HB2.out], h2⟩
        apply go_val (x := .bool true) pre_kept
        · rintro ρ wr ⟨hg, hn, hc, hf, hgl⟩
          simp only [Need, fat, List.nil_append, List.cons_append, List.getD_cons_zero, List.getD_cons_succ, Fct.hold, and_true] at hn
          refine ⟨by simp [wantP, hn], ?_⟩
          simp [execOp, hn, hc, go_sem]
        apply go_val (x := .bool true) pre_kept
        · rintro ρ wr ⟨hg, hn, hc, hf, hgl⟩
          simp only [Need, fat, List.nil_append, List.cons_append, List.getD_cons_zero, List.getD_cons_succ, Fct.hold, and_true] at hn
          refine ⟨by simp [wantP, hn], ?_⟩
          simp [execOp, hn, hc, go_sem]
        intro w2 hk2
        simp only [Post, List.nil_append, List.cons_append, Act.put, List.setIfInBounds_toArray, List.set_cons_zero, List.set_cons_succ]
        rename_i hK
        refine hK _ _ ?_
        clear hK
        replace H := Lib.hid (H.out.drawn hk2)
        replace HW := Lib.hid (HW.out.kept ((Kept.drew (Kept.refl _)).trans hk2))
        clear hk2 c0 c1 c2 f0 f1 f2
        have HCALL := Lib.hid (HQ.out.1 j hlt0 w2 H.out.1)
        have hun := HUN.out.1
        have hfw := HUN.out.2
        clear HUN
        have hrl := blk_lt (H.out.blk List.mem_cons_self)
        cases hR : repP G s j with
        | err er i =>
          rw [hR] at HCALL hun hfw
          simp only at hun
          have HE := Lib.hid hun.symm
          have her : ¬ (er : Int) = 0 := by have := hfw.1; omega
          clear hun hfw hR
          obtain ⟨vs, hv1, -, -⟩ := HW.out
          obtain ⟨A0, cap0, rfl⟩ := hv1.form
          clear hv1 HW
          go_wp2_with fail
          refine HCALL.out.mono ?_
          rintro e w5 ⟨rfl, ⟨op', h2⟩, h3⟩
          replace H := Lib.hid (H.out.step h2 h3)
          have hrl5 := blk_lt (H.out.blk List.mem_cons_self)
          clear h2 h3 HCALL HM
          unfold zre
          obtain ⟨⟨d0, d1, d2, d3, d4, d5⟩, g0, g1, g2, g3, g4, g5⟩ := box6 (H.out.blk List.mem_cons_self)
          have HF := Lib.hid (ret_re H.out (Nat.le_refl _) (.int .i64 0) (.int .u64 0) (.int .u64 0) (.int .u64 0) (.int .u64 0) (.slice none 0 0))
          go_wp2_with fail
          refine bodyPost_ret (v := .tuple #[zre, .int .i64 er]) ?_ rfl ?_
          · simp [results, Try.results23, go_sem, zre, d0, d1, d2, d3, d4, d5, hrl5]
          · rw [HE.out]
            exact ⟨rfl, ⟨_, HF.out.2.1.kept ((Kept.refl _).alloc _)⟩, HF.out.2.2.alloc _⟩
        | ok x i =>
          rw [hR] at HCALL hun hfw
          simp only at hun
          obtain ⟨hji, his⟩ := hfw
          rw [dif_pos hji] at hun
          have HR := Lib.hid hun
          clear hun hR
          obtain ⟨vs, hv1, hv2, hv3⟩ := HW.out
          obtain ⟨A0, cap0, rfl⟩ := hv1.form
          have HO := Lib.hid hv1.own
          have HV := Lib.hid (And.intro hv1 (And.intro hv2 hv3))
          have HN := Lib.hid (show vs.length ≤ 100000 by have := HL.out; omega)
          clear hv1 hv2 hv3 HW
          go_wp2_with fail
          refine HCALL.out.mono ?_
          rintro e w5 ⟨u, rfl, hx, h2, h3⟩
          obtain ⟨o1, s1, A1, n1, p1, rfl⟩ := hx.form
          have K7 : Kept w5 ((w5.alloc (.cells #[.int .i64 o1, .int .u64 (wdN s1 0), .int .u64 (wdN s1 1), .int .u64 (wdN s1 2), .int .u64 (wdN s1 3), .slice A1 n1 p1] 27)).alloc (.cells #[.int .i64 o1, .int .u64 (wdN s1 0), .int .u64 (wdN s1 1), .int .u64 (wdN s1 2), .int .u64 (wdN s1 3), .slice A1 n1 p1] 27)) := ((Kept.refl _).alloc _).alloc _
          have hgw := hgl
          have HX := Lib.hid (hx.kept K7)
          replace HV := Lib.hid (And.intro ((HV.out.1.gr h3 (by omega)).kept K7) (And.intro HV.out.2.1 (fun (j : Nat) (u : Value) (x : Re) hu hx => ((HV.out.2.2 j u x hu hx).gr h3 (fun hS => by omega)).kept K7)))
          replace H := Lib.hid ((H.out.step h2 h3).kept K7)
          have HB := Lib.hid (six_cells (alloc2' w5 (.cells #[.int .i64 o1, .int .u64 (wdN s1 0), .int .u64 (wdN s1 1), .int .u64 (wdN s1 2), .int .u64 (wdN s1 3), .slice A1 n1 p1] 27) (.cells #[.int .i64 o1, .int .u64 (wdN s1 0), .int .u64 (wdN s1 1), .int .u64 (wdN s1 2), .int .u64 (wdN s1 3), .slice A1 n1 p1] 27)).2)
          have HSZ := Lib.hid (Gr.size h3)
          clear h2 h3 HCALL hx K7
          simp only [re6_form] at HX ⊢
          go_wp2_with (at_builtin; refine wpList_push rfl _ _ rfl rfl HV.out.1 (re6 o1 s1 (.slice A1 n1 p1)) (six_re _ _ _ _ _) (w5.heap.size + 1) rfl HB.out HN.out (by have := HSZ.out; simp; omega) ?_; intro v8 w8 hraw hgr hown)
          have HST := Lib.hid (H.out.grown hgr (fun b hb => by
            have h9 := HO.out b hb
            refine ⟨by omega, by omega, fun q hq => ?_⟩
            rw [List.mem_singleton.1 hq]
            simp only []
            omega))
          have HRW := Lib.hid (Row.push HV.out.1 HV.out.2.1 HV.out.2.2 (u := re6 o1 s1 (.slice A1 n1 p1)) HX.out hrl (fun b hb => (HO.out b hb).2) hraw hgr hown)
          clear H HV HX HB hraw hgr hown
          go_roundw
          case rel => exact ⟨i, acc ++ [x], his, by simp; have := HL.out; omega, HR.out, HRW.out, HST.out⟩
          case measure => rw [HM.out, atOf_rd HST.out.1]; omega
theorem sequence_any (g : Nat) (s : ByteArray) (k op : Nat) (G : Nat → Res Re) (w : World) (h : Rd g s k op w) (hs : s.size ≤ 200) (hk : k ≤ s.size) (hG : ∀ k, k < s.size → Fw s k (G k))
    (HC : ∀ k, k < s.size → ∀ w, Rd g s k op w → Calls Try.prog 47 #[ptr g] w (RePost g s op (G k) w)) : Calls Try.prog 23 #[ptr g] w (RePost g s op (seqL G s [] k) w) :=
  sequence_go g s k op G w h hs hk (fun k hk => repP_fw G s k hG hk) (fun k hk w h => repeated_any g s k op G w h hs hk hG (HC k hk)) _ (Lib.hid rfl)
end Go.Proofs.Ytpnmcinbohdmhaa
