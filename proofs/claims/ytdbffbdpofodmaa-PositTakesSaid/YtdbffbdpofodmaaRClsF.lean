/-
  What the document's own class reads. Conditions: the text is no longer than 200 bytes, the reader has not failed.
-/
import Derived.Test.YtdbffbdpofodmaaRB1
import Derived.Deep.LoopGhost
set_option linter.unusedSimpArgs false
namespace Go.Proofs.Ytdbffbdpofodmaa
open Go Go.RowKit Kit
def RefPost (g : Nat) (s : ByteArray) (r : Res Re) (w : World) (e : Ending) (w' : World) : Prop := ∃ u, e = .returned u ∧ Six u ∧ Gr g w w' ∧
  match r with
  | .ok x j => ReAt (w.heap.size ≤ ·) w' u x ∧ w'.heap[g]? = some (RO s j)
  | .err er j => ∃ a, w'.heap[g]? = some (RF s a er j)
theorem itemP_end (s : ByteArray) (k : Nat) (h : ¬ k < s.size) : itemP s k = .err 2 k := by
  have e : litB s k = k := by unfold litB; rw [byteAt_none h]; simp
  have : litP s k = .err 2 k := by unfold litP; rw [e, byteAt_none h]
  unfold itemP; rw [this]
theorem putN_succ (X : BitVec 256) (a t : Nat) : putN X a (t + 1) = putN X a t ||| (1#256 <<< (a + t)) := rfl
/-- Where the class's loop stands. -/
def CRel (g : Nat) (s : ByteArray) (R : Res (BitVec 256)) (w : World) (q : Nat) (v : Value) (wr : World) : Prop :=
  ∃ (m : Nat) (X : BitVec 256), v = .int .i64 m ∧
   ((∃ j, m ≤ j ∧ j ≤ s.size ∧ s.size + 1 ≤ q + j ∧ R = (if m = 0 ∧ byteAt s j = some 93 then .err 2 j else classL s X j) ∧ StO g (RO s j) [(w.heap.size + 1, (.cells #[.int .u64 (wdN X 0), .int .u64 (wdN X 1), .int .u64 (wdN X 2), .int .u64 (wdN X 3)] 23)), (w.heap.size, (.cells #[.int .i64 0, .int .u64 0, .int .u64 0, .int .u64 0, .int .u64 0, .slice none 0 0] 26))] w wr) ∨
    (∃ a er j, m ≤ 1000 ∧ 0 < er ∧ R = .err er j ∧ StO g (RF s a er j) [(w.heap.size + 1, (.cells #[.int .u64 (wdN X 0), .int .u64 (wdN X 1), .int .u64 (wdN X 2), .int .u64 (wdN X 3)] 23)), (w.heap.size, (.cells #[.int .i64 0, .int .u64 0, .int .u64 0, .int .u64 0, .int .u64 0, .slice none 0 0] 26))] w wr))
def rclsOut (n : Bool) (R : Res (BitVec 256)) : Res Re := clsOut n R
set_option maxRecDepth 100000 in
set_option maxHeartbeats 4000000 in
theorem rclass_false (g : Nat) (s : ByteArray) (k k2 : Nat) (w : World) (h : w.heap[g]? = some (RO s k)) (hs : s.size ≤ 200) (_hk : k ≤ s.size) (hk2 : k2 ≤ s.size) (hn : (byteAt s k == some 94) = false) (hi : k = k2) (R : Res (BitVec 256)) (HR : Hid (R = if byteAt s k2 = some 93 then .err 2 k2 else classL s 0#256 k2)) : Calls Try.prog 59 #[ptr g] w (RefPost g s (rclsOut false R) w) := by
  have hk200 : k2 ≤ 200 := by omega
  subst hi
  have hgl := blk_lt h
  have H := Lib.hid (((StO.start h).alloc (.cells #[.int .i64 0, .int .u64 0, .int .u64 0, .int .u64 0, .int .u64 0, .slice none 0 0] 26)).alloc (.cells #[.int .u64 0, .int .u64 0, .int .u64 0, .int .u64 0] 23))
  rw [World.size_alloc] at H
  clear h
  have HG := Lib.hid hgl
  unfold ptr at *
  go_enter Try.func59, Try.ntmps59
  go_wp2_with fail
  generalize (w.alloc _).alloc _ = w1 at H ⊢
  have HS := Lib.hid (is_any g s k 94 w1 H.out.1)
  rw [hn] at HS
  refine HS.out.mono ?_
  rintro e w2 ⟨rfl, h2⟩
  replace H := Lib.hid (H.out.kept h2)
  clear h2 HS hn
  go_wp2_with fail
  go_loopg [5] (s.size + 1) (fun q v wr => CRel g s R w q v wr)
  case atStart =>
    refine ⟨0, 0#256, rfl, .inl ⟨k, Nat.zero_le _, hk2, by omega, ?_, ?_⟩⟩
    · rw [HR.out]
      by_cases h : byteAt s k = some 93
      · rw [if_pos h, if_pos ⟨rfl, h⟩]
      · rw [if_neg h, if_neg (fun h2 => h h2.2)]
    · have e : wdN 0#256 0 = 0 ∧ wdN 0#256 1 = 0 ∧ wdN 0#256 2 = 0 ∧ wdN 0#256 3 = 0 := by decide +kernel
      rw [e.1, e.2.1, e.2.2.1, e.2.2.2]
      exact H.out
  case round =>
    clear HR H
    obtain ⟨m, X, rfl, hx⟩ := hrel
    rcases hx with ⟨j, hmj, hj, hq, hR, hst⟩ | ⟨a, er, j, hm, her, hR, hst⟩
    · have H := Lib.hid hst
      have HR := Lib.hid hR
      clear hst hR
      obtain ⟨⟨c0, c1, c2, c3⟩, f0, f1, f2, f3⟩ := RO.lay H.out.1
      by_cases h93 : byteAt s j = some 93
      · have HB := Lib.hid (show (byteAt s j == some 93) = true by simp [h93])
        by_cases hm0 : m = 0
        · have HE : Hid (R = .err 2 j) := Lib.hid (by rw [HR.out, if_pos ⟨hm0, h93⟩])
          have hmi : decide (0 < m) = false := by simp; omega
          have hmj2 : ¬ 0 < m := by omega
          clear h93 hm0 HR
          have HS := Lib.hid (is_any g s j 93 _ H.out.1)
          rw [HB.out] at HS
          go_wp2_with fail
          refine HS.out.mono ?_
          rintro e w5 ⟨rfl, h2⟩
          replace H := Lib.hid (H.out.kept h2)
          clear h2 HS c0 c1 c2 c3 f0 f1 f2 f3
          obtain ⟨⟨c0, c1, c2, c3⟩, f0, f1, f2, f3⟩ := RO.lay H.out.1
          have HS := Lib.hid (is_any g s j 93 _ H.out.1)
          rw [HB.out] at HS
          go_wp2_with fail
          refine HS.out.mono ?_
          rintro e w6 ⟨rfl, h2⟩
          replace H := Lib.hid (H.out.kept h2)
          clear h2 HS c0 c1 c2 c3 f0 f1 f2 f3
          obtain ⟨⟨c0, c1, c2, c3⟩, f0, f1, f2, f3⟩ := RO.lay H.out.1
          go_wp2_with fail
          refine (fail_any g s j 2 j _ H.out.1).mono ?_
          rintro e w8 ⟨rfl, h1, h2⟩
          replace H := Lib.hid (H.out.step h1 h2)
          clear h1 h2 c0 c1 c2 c3 f0 f1 f2 f3
          obtain ⟨a, HH⟩ : ∃ a, Hid (StO g (RF s a 2 j) [(w.heap.size + 1, (.cells #[.int .u64 (wdN X 0), .int .u64 (wdN X 1), .int .u64 (wdN X 2), .int .u64 (wdN X 3)] 23)), (w.heap.size, (.cells #[.int .i64 0, .int .u64 0, .int .u64 0, .int .u64 0, .int .u64 0, .slice none 0 0] 26))] w w8) := ⟨_, H⟩
          clear H
          have H := HH
          clear HH
          obtain ⟨⟨c0, c1, c2, c3⟩, f0, f1, f2, f3⟩ := RF.lay H.out.1
          obtain ⟨⟨d0, d1, d2, d3, d4, d5⟩, g0, g1, g2, g3, g4, g5⟩ := box6 (H.out.blk (List.mem_cons_of_mem _ List.mem_cons_self))
          obtain ⟨⟨x0, x1, x2, x3⟩, -⟩ := box4 (H.out.blk List.mem_cons_self)
          have HF := Lib.hid (ret_reO (H.out.atF (a' := wrap64 (a + 1))).drop (Nat.le_refl _) (.int .i64 1) (.int .u64 (wdN X 0)) (.int .u64 (wdN X 1)) (.int .u64 (wdN X 2)) (.int .u64 (wdN X 3)) (.slice none 0 0))
          go_wp2_with fail
          refine bodyPost_ret (v := re6 1 X (.slice none 0 0)) ?_ rfl ?_
          · simp [results, Try.results59, go_sem, re6_form, d0, d1, d2, d3, d4, d5]
          · rw [HE.out]
            exact ⟨_, rfl, six_re _ _ _ _ _, HF.out.2.2, _, HF.out.1⟩
        · have HE : Hid (R = .ok X (j + 1)) := Lib.hid (by rw [HR.out, if_neg (fun h => hm0 h.1), classL, if_pos h93])
          have hmi : decide (0 < m) = true := by simp; omega
          have hmj2 : 0 < m := by omega
          clear h93 hm0 HR
          have HS := Lib.hid (is_any g s j 93 _ H.out.1)
          rw [HB.out] at HS
          go_wp2_with fail
          refine HS.out.mono ?_
          rintro e w5 ⟨rfl, h2⟩
          replace H := Lib.hid (H.out.kept h2)
          clear h2 HS c0 c1 c2 c3 f0 f1 f2 f3
          obtain ⟨⟨c0, c1, c2, c3⟩, f0, f1, f2, f3⟩ := RO.lay H.out.1
          obtain ⟨j1, hj1⟩ : ∃ j1, j + 1 = j1 := ⟨_, rfl⟩
          have hji : (j : Int) + 1 = j1 := by omega
          have hj1b : j1 ≤ 201 := by omega
          rw [hj1] at HE
          clear hj1
          obtain ⟨⟨c0, c1, c2, c3⟩, f0, f1, f2, f3⟩ := RO.lay H.out.1
          obtain ⟨⟨d0, d1, d2, d3, d4, d5⟩, g0, g1, g2, g3, g4, g5⟩ := box6 (H.out.blk (List.mem_cons_of_mem _ List.mem_cons_self))
          obtain ⟨⟨x0, x1, x2, x3⟩, -⟩ := box4 (H.out.blk List.mem_cons_self)
          have HF := Lib.hid (ret_reO (H.out.at (k' := j1)).drop (Nat.le_refl _) (.int .i64 1) (.int .u64 (wdN X 0)) (.int .u64 (wdN X 1)) (.int .u64 (wdN X 2)) (.int .u64 (wdN X 3)) (.slice none 0 0))
          go_wp2_with fail
          refine bodyPost_ret (v := re6 1 X (.slice none 0 0)) ?_ rfl ?_
          · simp [results, Try.results59, go_sem, re6_form, d0, d1, d2, d3, d4, d5]
          · rw [HE.out]
            exact ⟨_, rfl, six_re _ _ _ _ _, HF.out.2.2, ReAt.leaf _ _ _ _, HF.out.1⟩
      · have HB := Lib.hid (show (byteAt s j == some 93) = false by simp [h93])
        by_cases hend : j < s.size
        case neg =>
          have HE : Hid (R = .err 2 j) := Lib.hid (by rw [HR.out, if_neg (fun h => h93 h.2), classL, if_neg h93, itemP_end s j hend])
          have hend2 : s.size ≤ j := by omega
          clear h93 HR
          have HS := Lib.hid (is_any g s j 93 _ H.out.1)
          rw [HB.out] at HS
          go_wp2_with fail
          refine HS.out.mono ?_
          rintro e w5 ⟨rfl, h2⟩
          replace H := Lib.hid (H.out.kept h2)
          clear h2 HS c0 c1 c2 c3 f0 f1 f2 f3
          obtain ⟨⟨c0, c1, c2, c3⟩, f0, f1, f2, f3⟩ := RO.lay H.out.1
          have HS := Lib.hid (is_any g s j 93 _ H.out.1)
          rw [HB.out] at HS
          go_wp2_with fail
          refine HS.out.mono ?_
          rintro e w6 ⟨rfl, h2⟩
          replace H := Lib.hid (H.out.kept h2)
          clear h2 HS c0 c1 c2 c3 f0 f1 f2 f3
          obtain ⟨⟨c0, c1, c2, c3⟩, f0, f1, f2, f3⟩ := RO.lay H.out.1
          go_wp2_with fail
          refine (over_any g s j _ H.out.1).mono ?_
          rintro e w7 ⟨rfl, h2⟩
          rw [show decide (s.size ≤ j) = true from by simp; omega]
          replace H := Lib.hid (H.out.kept h2)
          clear h2 c0 c1 c2 c3 f0 f1 f2 f3
          obtain ⟨⟨c0, c1, c2, c3⟩, f0, f1, f2, f3⟩ := RO.lay H.out.1
          go_wp2_with fail
          refine (fail_any g s j 2 j _ H.out.1).mono ?_
          rintro e w8 ⟨rfl, h1, h2⟩
          replace H := Lib.hid (H.out.step h1 h2)
          clear h1 h2 c0 c1 c2 c3 f0 f1 f2 f3
          obtain ⟨a, HH⟩ : ∃ a, Hid (StO g (RF s a 2 j) [(w.heap.size + 1, (.cells #[.int .u64 (wdN X 0), .int .u64 (wdN X 1), .int .u64 (wdN X 2), .int .u64 (wdN X 3)] 23)), (w.heap.size, (.cells #[.int .i64 0, .int .u64 0, .int .u64 0, .int .u64 0, .int .u64 0, .slice none 0 0] 26))] w w8) := ⟨_, H⟩
          clear H
          have H := HH
          clear HH
          obtain ⟨⟨c0, c1, c2, c3⟩, f0, f1, f2, f3⟩ := RF.lay H.out.1
          obtain ⟨⟨d0, d1, d2, d3, d4, d5⟩, g0, g1, g2, g3, g4, g5⟩ := box6 (H.out.blk (List.mem_cons_of_mem _ List.mem_cons_self))
          obtain ⟨⟨x0, x1, x2, x3⟩, -⟩ := box4 (H.out.blk List.mem_cons_self)
          have HF := Lib.hid (ret_reO (H.out.atF (a' := wrap64 (a + 1))).drop (Nat.le_refl _) (.int .i64 1) (.int .u64 (wdN X 0)) (.int .u64 (wdN X 1)) (.int .u64 (wdN X 2)) (.int .u64 (wdN X 3)) (.slice none 0 0))
          go_wp2_with fail
          refine bodyPost_ret (v := re6 1 X (.slice none 0 0)) ?_ rfl ?_
          · simp [results, Try.results59, go_sem, re6_form, d0, d1, d2, d3, d4, d5]
          · rw [HE.out]
            exact ⟨_, rfl, six_re _ _ _ _ _, HF.out.2.2, _, HF.out.1⟩

        have hun : R = classL s X j := by rw [HR.out, if_neg (fun h => h93 h.2)]
        rw [classL, if_neg h93] at hun
        have HU := Lib.hid hun
        obtain ⟨G, hG⟩ : ∃ G, G = gk := ⟨_, rfl⟩
        have hGq : s.size + 1 ≤ G + j := by omega
        clear h93 HR hun
        have HS := Lib.hid (is_any g s j 93 _ H.out.1)
        rw [HB.out] at HS
        go_wp2_with fail
        refine HS.out.mono ?_
        rintro e w5 ⟨rfl, h2⟩
        replace H := Lib.hid (H.out.kept h2)
        clear h2 HS c0 c1 c2 c3 f0 f1 f2 f3
        obtain ⟨⟨c0, c1, c2, c3⟩, f0, f1, f2, f3⟩ := RO.lay H.out.1
        have HS := Lib.hid (is_any g s j 93 _ H.out.1)
        rw [HB.out] at HS
        go_wp2_with fail
        refine HS.out.mono ?_
        rintro e w6 ⟨rfl, h2⟩
        replace H := Lib.hid (H.out.kept h2)
        clear h2 HS c0 c1 c2 c3 f0 f1 f2 f3
        obtain ⟨⟨c0, c1, c2, c3⟩, f0, f1, f2, f3⟩ := RO.lay H.out.1
        go_wp2_with fail
        refine (over_any g s j _ H.out.1).mono ?_
        rintro e w7 ⟨rfl, h2⟩
        rw [show decide (s.size ≤ j) = false from by simp; omega]
        replace H := Lib.hid (H.out.kept h2)
        clear h2 c0 c1 c2 c3 f0 f1 f2 f3
        obtain ⟨⟨c0, c1, c2, c3⟩, f0, f1, f2, f3⟩ := RO.lay H.out.1
        have HB1 := Lib.hid (byte1_any g s j _ H.out.1 hs hj)
        have HFW := Lib.hid (litP_fw s j hj)
        unfold ptr at HB1
        go_wp2_with fail
        cases hl : litP s j with
        | err er i =>
          rw [hl] at HB1 HFW
          unfold B1Post at HB1
          have her : 0 < er := HFW.out.1
          have heri : ¬ (er : Int) = 0 := by omega
          have hern : ¬ er = 0 := by omega
          have HE : Hid (R = .err er i) := Lib.hid (by rw [HU.out]; unfold itemP; rw [hl])
          clear HU hl HFW
          refine HB1.out.mono ?_
          rintro e w8 ⟨rfl, ⟨a, h1⟩, h2⟩
          replace H := Lib.hid (H.out.step h1 h2)
          clear h1 h2 HB1 c0 c1 c2 c3 f0 f1 f2 f3
          obtain ⟨⟨c0, c1, c2, c3⟩, f0, f1, f2, f3⟩ := RF.lay H.out.1
          go_wp2_with fail
          refine wp_region_go Kept pre_kept [([(0, none)], none), ([(50, some 0)], none), ([(51, some 1)], none), ([(52, some 2)], none), ([(53, some 3)], none), ([(54, some 4)], none), ([(0, none), (55, some 5)], some (55, true)), ([(56, some 6), (55, some 5)], some (55, true)), ([(55, some 5), (57, some 7)], none), ([(58, some 8)], none), ([(0, none), (59, some 9)], some (59, true)), ([(60, some 10), (59, some 9)], some (59, true)), ([(61, some 11), (59, some 9)], some (59, true)), ([(62, some 12), (59, some 9)], some (59, true)), ([(63, some 13), (59, some 9)], some (59, true)), ([(0, none), (59, some 9)], some (59, true)), ([(65, some 15), (59, some 9)], some (59, true)), ([(66, some 16), (59, some 9)], some (59, true)), ([(67, some 17), (59, some 9)], some (59, true)), ([(68, some 18), (59, some 9)], some (59, true)), ([(64, some 14), (69, some 19), (59, some 9)], some (59, true)), ([(59, some 9), (70, some 20)], none), ([(71, some 21)], none), ([(0, none), (72, some 22)], some (72, true)), ([(73, some 23), (72, some 22)], some (72, true)), ([(74, some 24), (72, some 22)], some (72, true)), ([(75, some 25), (72, some 22)], some (72, true)), ([(0, none), (72, some 22)], some (72, true)), ([(77, some 27), (72, some 22)], some (72, true)), ([(78, some 28), (72, some 22)], some (72, true)), ([(79, some 29), (72, some 22)], some (72, true)), ([(80, some 30), (72, some 22)], some (72, true)), ([(76, some 26), (81, some 31), (72, some 22)], some (72, true)), ([(82, some 32), (72, some 22)], some (72, true)), ([(72, some 22), (83, some 33)], none)] (by kernel_rfl) 145 rfl (by kernel_rfl) (by kernel_rfl) ?_
          apply go_val pre_kept
          · rintro ρ wr ⟨hg, hn, hc, hf, hgl⟩
            simp only [Need, fat, List.nil_append, List.cons_append, List.getD_cons_zero, List.getD_cons_succ, Fct.hold, and_true] at hn
            refine ⟨by simp [wantP, hn], ?_⟩
            simp [execOp, hn, hc, go_sem]
            exact rfl
          apply go_val pre_kept
          · rintro ρ wr ⟨hg, hn, hc, hf, hgl⟩
            simp only [Need, fat, List.nil_append, List.cons_append, List.getD_cons_zero, List.getD_cons_succ, Fct.hold, and_true] at hn
            refine ⟨by simp [wantP, hn], ?_⟩
            simp [execOp, hn, hc, go_sem]
            exact rfl
          apply go_val pre_kept
          · rintro ρ wr ⟨hg, hn, hc, hf, hgl⟩
            simp only [Need, fat, List.nil_append, List.cons_append, List.getD_cons_zero, List.getD_cons_succ, Fct.hold, and_true] at hn
            refine ⟨by simp [wantP, hn], ?_⟩
            simp [execOp, hn, hc, go_sem]
            exact rfl
          apply go_val pre_kept
          · rintro ρ wr ⟨hg, hn, hc, hf, hgl⟩
            simp only [Need, fat, List.nil_append, List.cons_append, List.getD_cons_zero, List.getD_cons_succ, Fct.hold, and_true] at hn
            have hl := And.intro (hg.cell c0) (And.intro (hg.cell c1) (hg.cell c2))
            refine ⟨by simp [wantP, hn], ?_⟩
            simp [execOp, hn, hc, hl, go_sem]
            exact rfl
          apply go_val (x := .bool false) pre_kept
          · rintro ρ wr ⟨hg, hn, hc, hf, hgl⟩
            simp only [Need, fat, List.nil_append, List.cons_append, List.getD_cons_zero, List.getD_cons_succ, Fct.hold, and_true] at hn
            refine ⟨by simp [wantP, hn], ?_⟩
            simp [execOp, hn, hc, go_sem, hern]
          apply go_val pre_kept
          · rintro ρ wr ⟨hg, hn, hc, hf, hgl⟩
            simp only [Need, fat, List.nil_append, List.cons_append, List.getD_cons_zero, List.getD_cons_succ, Fct.hold, and_true] at hn
            refine ⟨by simp [wantP, hn], ?_⟩
            simp [execOp, hn, hc, go_sem]
            exact rfl
          refine go_not pre_kept ?_ ?_
          · rintro ρ wr ⟨hg, hn, hc, hf, hgl⟩
            simp only [Need, fat, List.nil_append, List.cons_append, List.getD_cons_zero, List.getD_cons_succ, Fct.hold, and_true] at hn
            simp [wantP, hn]
          refine go_not pre_kept ?_ ?_
          · rintro ρ wr ⟨hg, hn, hc, hf, hgl⟩
            simp only [Need, fat, List.nil_append, List.cons_append, List.getD_cons_zero, List.getD_cons_succ, Fct.hold, and_true] at hn
            simp [wantP, hn]
          apply go_val (x := .bool false) pre_kept
          · rintro ρ wr ⟨hg, hn, hc, hf, hgl⟩
            simp only [Need, fat, List.nil_append, List.cons_append, List.getD_cons_zero, List.getD_cons_succ, Fct.hold, and_true] at hn
            refine ⟨by simp [wantP, hn], ?_⟩
            simp [execOp, hn, hc, go_sem]
          apply go_val (x := .bool false) pre_kept
          · rintro ρ wr ⟨hg, hn, hc, hf, hgl⟩
            simp only [Need, fat, List.nil_append, List.cons_append, List.getD_cons_zero, List.getD_cons_succ, Fct.hold, and_true] at hn
            refine ⟨by simp [wantP, hn], ?_⟩
            simp [execOp, hn, hc, go_sem]
          refine go_not pre_kept ?_ ?_
          · rintro ρ wr ⟨hg, hn, hc, hf, hgl⟩
            simp only [Need, fat, List.nil_append, List.cons_append, List.getD_cons_zero, List.getD_cons_succ, Fct.hold, and_true] at hn
            simp [wantP, hn]
          refine go_not pre_kept ?_ ?_
          · rintro ρ wr ⟨hg, hn, hc, hf, hgl⟩
            simp only [Need, fat, List.nil_append, List.cons_append, List.getD_cons_zero, List.getD_cons_succ, Fct.hold, and_true] at hn
            simp [wantP, hn]
          refine go_not pre_kept ?_ ?_
          · rintro ρ wr ⟨hg, hn, hc, hf, hgl⟩
            simp only [Need, fat, List.nil_append, List.cons_append, List.getD_cons_zero, List.getD_cons_succ, Fct.hold, and_true] at hn
            simp [wantP, hn]
          refine go_not pre_kept ?_ ?_
          · rintro ρ wr ⟨hg, hn, hc, hf, hgl⟩
            simp only [Need, fat, List.nil_append, List.cons_append, List.getD_cons_zero, List.getD_cons_succ, Fct.hold, and_true] at hn
            simp [wantP, hn]
          refine go_not pre_kept ?_ ?_
          · rintro ρ wr ⟨hg, hn, hc, hf, hgl⟩
            simp only [Need, fat, List.nil_append, List.cons_append, List.getD_cons_zero, List.getD_cons_succ, Fct.hold, and_true] at hn
            simp [wantP, hn]
          refine go_not pre_kept ?_ ?_
          · rintro ρ wr ⟨hg, hn, hc, hf, hgl⟩
            simp only [Need, fat, List.nil_append, List.cons_append, List.getD_cons_zero, List.getD_cons_succ, Fct.hold, and_true] at hn
            simp [wantP, hn]
          refine go_not pre_kept ?_ ?_
          · rintro ρ wr ⟨hg, hn, hc, hf, hgl⟩
            simp only [Need, fat, List.nil_append, List.cons_append, List.getD_cons_zero, List.getD_cons_succ, Fct.hold, and_true] at hn
            simp [wantP, hn]
          refine go_not pre_kept ?_ ?_
          · rintro ρ wr ⟨hg, hn, hc, hf, hgl⟩
            simp only [Need, fat, List.nil_append, List.cons_append, List.getD_cons_zero, List.getD_cons_succ, Fct.hold, and_true] at hn
            simp [wantP, hn]
          refine go_not pre_kept ?_ ?_
          · rintro ρ wr ⟨hg, hn, hc, hf, hgl⟩
            simp only [Need, fat, List.nil_append, List.cons_append, List.getD_cons_zero, List.getD_cons_succ, Fct.hold, and_true] at hn
            simp [wantP, hn]
          refine go_not pre_kept ?_ ?_
          · rintro ρ wr ⟨hg, hn, hc, hf, hgl⟩
            simp only [Need, fat, List.nil_append, List.cons_append, List.getD_cons_zero, List.getD_cons_succ, Fct.hold, and_true] at hn
            simp [wantP, hn]
          refine go_not pre_kept ?_ ?_
          · rintro ρ wr ⟨hg, hn, hc, hf, hgl⟩
            simp only [Need, fat, List.nil_append, List.cons_append, List.getD_cons_zero, List.getD_cons_succ, Fct.hold, and_true] at hn
            simp [wantP, hn]
          apply go_val (x := .bool false) pre_kept
          · rintro ρ wr ⟨hg, hn, hc, hf, hgl⟩
            simp only [Need, fat, List.nil_append, List.cons_append, List.getD_cons_zero, List.getD_cons_succ, Fct.hold, and_true] at hn
            refine ⟨by simp [wantP, hn], ?_⟩
            simp [execOp, hn, hc, go_sem]
          apply go_val (x := .bool false) pre_kept
          · rintro ρ wr ⟨hg, hn, hc, hf, hgl⟩
            simp only [Need, fat, List.nil_append, List.cons_append, List.getD_cons_zero, List.getD_cons_succ, Fct.hold, and_true] at hn
            refine ⟨by simp [wantP, hn], ?_⟩
            simp [execOp, hn, hc, go_sem]
          refine go_not pre_kept ?_ ?_
          · rintro ρ wr ⟨hg, hn, hc, hf, hgl⟩
            simp only [Need, fat, List.nil_append, List.cons_append, List.getD_cons_zero, List.getD_cons_succ, Fct.hold, and_true] at hn
            simp [wantP, hn]
          refine go_not pre_kept ?_ ?_
          · rintro ρ wr ⟨hg, hn, hc, hf, hgl⟩
            simp only [Need, fat, List.nil_append, List.cons_append, List.getD_cons_zero, List.getD_cons_succ, Fct.hold, and_true] at hn
            simp [wantP, hn]
          refine go_not pre_kept ?_ ?_
          · rintro ρ wr ⟨hg, hn, hc, hf, hgl⟩
            simp only [Need, fat, List.nil_append, List.cons_append, List.getD_cons_zero, List.getD_cons_succ, Fct.hold, and_true] at hn
            simp [wantP, hn]
          refine go_not pre_kept ?_ ?_
          · rintro ρ wr ⟨hg, hn, hc, hf, hgl⟩
            simp only [Need, fat, List.nil_append, List.cons_append, List.getD_cons_zero, List.getD_cons_succ, Fct.hold, and_true] at hn
            simp [wantP, hn]
          refine go_not pre_kept ?_ ?_
          · rintro ρ wr ⟨hg, hn, hc, hf, hgl⟩
            simp only [Need, fat, List.nil_append, List.cons_append, List.getD_cons_zero, List.getD_cons_succ, Fct.hold, and_true] at hn
            simp [wantP, hn]
          refine go_not pre_kept ?_ ?_
          · rintro ρ wr ⟨hg, hn, hc, hf, hgl⟩
            simp only [Need, fat, List.nil_append, List.cons_append, List.getD_cons_zero, List.getD_cons_succ, Fct.hold, and_true] at hn
            simp [wantP, hn]
          refine go_not pre_kept ?_ ?_
          · rintro ρ wr ⟨hg, hn, hc, hf, hgl⟩
            simp only [Need, fat, List.nil_append, List.cons_append, List.getD_cons_zero, List.getD_cons_succ, Fct.hold, and_true] at hn
            simp [wantP, hn]
          refine go_not pre_kept ?_ ?_
          · rintro ρ wr ⟨hg, hn, hc, hf, hgl⟩
            simp only [Need, fat, List.nil_append, List.cons_append, List.getD_cons_zero, List.getD_cons_succ, Fct.hold, and_true] at hn
            simp [wantP, hn]
          refine go_not pre_kept ?_ ?_
          · rintro ρ wr ⟨hg, hn, hc, hf, hgl⟩
            simp only [Need, fat, List.nil_append, List.cons_append, List.getD_cons_zero, List.getD_cons_succ, Fct.hold, and_true] at hn
            simp [wantP, hn]
          refine go_not pre_kept ?_ ?_
          · rintro ρ wr ⟨hg, hn, hc, hf, hgl⟩
            simp only [Need, fat, List.nil_append, List.cons_append, List.getD_cons_zero, List.getD_cons_succ, Fct.hold, and_true] at hn
            simp [wantP, hn]
          refine go_not pre_kept ?_ ?_
          · rintro ρ wr ⟨hg, hn, hc, hf, hgl⟩
            simp only [Need, fat, List.nil_append, List.cons_append, List.getD_cons_zero, List.getD_cons_succ, Fct.hold, and_true] at hn
            simp [wantP, hn]
          apply go_val (x := .bool false) pre_kept
          · rintro ρ wr ⟨hg, hn, hc, hf, hgl⟩
            simp only [Need, fat, List.nil_append, List.cons_append, List.getD_cons_zero, List.getD_cons_succ, Fct.hold, and_true] at hn
            refine ⟨by simp [wantP, hn], ?_⟩
            simp [execOp, hn, hc, go_sem]
          intro wq hkq
          simp only [Post, List.nil_append, List.cons_append, Act.put, List.setIfInBounds_toArray, List.set_cons_zero, List.set_cons_succ]
          rename_i hK
          refine hK _ _ ?_
          clear hK
          replace H := Lib.hid (H.out.drawn hkq)
          clear hkq
          clear c0 c1 c2 c3 f0 f1 f2 f3
          go_wp2_with fail
          have HI := Lib.hid H.out
          go_loopg [9] (0 + 1) (fun q v wr => ∃ t : Nat, v = .int .i64 ((0 + t : Nat) : Int) ∧ 0 + t ≤ 256 ∧ 0 + 1 ≤ q + (0 + t) ∧ t ≤ 0 + 1 - 0 ∧ StO g (RF s a er i) [(w.heap.size + 1, (.cells #[.int .u64 (wdN (putN X 0 t) 0), .int .u64 (wdN (putN X 0 t) 1), .int .u64 (wdN (putN X 0 t) 2), .int .u64 (wdN (putN X 0 t) 3)] 23)), (w.heap.size, (.cells #[.int .i64 0, .int .u64 0, .int .u64 0, .int .u64 0, .int .u64 0, .slice none 0 0] 26))] w wr)
          case atStart => exact ⟨0, rfl, by omega, by omega, by omega, HI.out⟩
          case round =>
            clear HI H
            obtain ⟨t, rfl, ht, hq2, ht2, hst⟩ := hrel
            have H := Lib.hid hst
            obtain ⟨⟨x0, x1, x2, x3⟩, -⟩ := box4 (hst.blk List.mem_cons_self)
            have hsbg := hst.ne List.mem_cons_self
            clear hst
            obtain ⟨c, hc⟩ : ∃ c, 0 + t = c := ⟨_, rfl⟩
            rw [hc] at ht hq2 ⊢
            have HC := Lib.hid hc
            clear hc
            by_cases hle : c ≤ 0
            · obtain rfl : c = 0 := by omega
              go_wp2_with fail
              have HP : (putN X 0 t ||| (1#256 <<< 0)) = putN X 0 (t + 1) := by rw [putN_succ, HC.out]
              have HW := with4 (putN X 0 t) 0 (by omega) wr
              rw [HP] at HW
              clear HP
              refine HW.mono ?_
              clear HW
              rintro e w9 ⟨rfl, hk5⟩
              clear x0 x1 x2 x3
              have hb := (H.out.kept hk5).blk List.mem_cons_self
              obtain ⟨⟨x0, x1, x2, x3⟩, y0, y1, y2, y3⟩ := box4 hb
              have HN := Lib.hid ((((((H.out.kept hk5).drop.side (p := ⟨w.heap.size + 1, 0, none⟩) (Nat.le_succ _) hsbg (by simp) (.int .u64 (wdN (putN X 0 (t + 1)) 0))).side (p := ⟨w.heap.size + 1, 1, none⟩) (Nat.le_succ _) hsbg (by simp) (.int .u64 (wdN (putN X 0 (t + 1)) 1))).side (p := ⟨w.heap.size + 1, 2, none⟩) (Nat.le_succ _) hsbg (by simp) (.int .u64 (wdN (putN X 0 (t + 1)) 2))).side (p := ⟨w.heap.size + 1, 3, none⟩) (Nat.le_succ _) hsbg (by simp) (.int .u64 (wdN (putN X 0 (t + 1)) 3))).add (blk_set4 hb (.int .u64 (wdN (putN X 0 (t + 1)) 0)) (.int .u64 (wdN (putN X 0 (t + 1)) 1)) (.int .u64 (wdN (putN X 0 (t + 1)) 2)) (.int .u64 (wdN (putN X 0 (t + 1)) 3))) hsbg)
              clear hb hk5
              go_wp2_with fail
              go_roundg (gk - 1)
              case measure => omega
              case rel => exact ⟨t + 1, by have := HC.out; congr 1; omega, by have := HC.out; omega, by have := HC.out; omega, by have := HC.out; omega, HN.out⟩
            · have hte : t = 0 + 1 - 0 := by have := HC.out; omega
              subst hte
              clear ht2
              go_wp2_with fail
              go_roundg 0
              case measure => omega
              case rel => exact ⟨m + 1, _, by go_num, .inr ⟨a, er, i, by omega, her, HE.out, H.out⟩⟩
        | ok a i =>
          rw [hl] at HB1 HFW
          obtain ⟨hji, hile⟩ := HFW.out
          obtain ⟨an, han⟩ : ∃ an, a.toNat = an := ⟨_, rfl⟩
          have han255 : an ≤ 255 := by have := a.toNat_lt; omega
          unfold B1Post at HB1
          have hb1 := HB1.out
          clear HB1
          dsimp only at hb1
          rw [han] at hb1
          have HB1 := Lib.hid hb1
          clear hb1 HFW
          refine HB1.out.mono ?_
          rintro e w8 ⟨rfl, h1, h2⟩
          replace H := Lib.hid (H.out.step h1 h2)
          clear h1 h2 HB1 c0 c1 c2 c3 f0 f1 f2 f3
          obtain ⟨⟨c0, c1, c2, c3⟩, f0, f1, f2, f3⟩ := RO.lay H.out.1
          cases hbt : betw s i with
          | false =>
            have hit : itemP s j = .ok (a, a) i := by unfold itemP; rw [hl]; simp only [hbt]; rfl
            have HE : Hid (R = classL s (putN X an (an + 1 - an)) i) := Lib.hid (by
              rw [HU.out, hit]
              simp only
              rw [if_pos ⟨hji, hend⟩]
              unfold putR
              rw [han])
            clear HU hit
            cases h45 : byteAt s i == some 45 with
            | false =>
              have HB45 := Lib.hid h45
              clear h45 hbt hl han
              go_wp2_with fail
              refine wp_region_go Kept pre_kept [([(0, none)], none), ([(50, some 0)], none), ([(51, some 1)], none), ([(52, some 2)], none), ([(53, some 3)], none), ([(54, some 4)], none), ([(0, none), (55, some 5)], some (55, true)), ([(56, some 6), (55, some 5)], some (55, true)), ([(55, some 5), (57, some 7)], none), ([(58, some 8)], none), ([(0, none), (59, some 9)], some (59, true)), ([(60, some 10), (59, some 9)], some (59, true)), ([(61, some 11), (59, some 9)], some (59, true)), ([(62, some 12), (59, some 9)], some (59, true)), ([(63, some 13), (59, some 9)], some (59, true)), ([(0, none), (59, some 9)], some (59, true)), ([(65, some 15), (59, some 9)], some (59, true)), ([(66, some 16), (59, some 9)], some (59, true)), ([(67, some 17), (59, some 9)], some (59, true)), ([(68, some 18), (59, some 9)], some (59, true)), ([(64, some 14), (69, some 19), (59, some 9)], some (59, true)), ([(59, some 9), (70, some 20)], none), ([(71, some 21)], none), ([(0, none), (72, some 22)], some (72, true)), ([(73, some 23), (72, some 22)], some (72, true)), ([(74, some 24), (72, some 22)], some (72, true)), ([(75, some 25), (72, some 22)], some (72, true)), ([(0, none), (72, some 22)], some (72, true)), ([(77, some 27), (72, some 22)], some (72, true)), ([(78, some 28), (72, some 22)], some (72, true)), ([(79, some 29), (72, some 22)], some (72, true)), ([(80, some 30), (72, some 22)], some (72, true)), ([(76, some 26), (81, some 31), (72, some 22)], some (72, true)), ([(82, some 32), (72, some 22)], some (72, true)), ([(72, some 22), (83, some 33)], none)] (by kernel_rfl) 145 rfl (by kernel_rfl) (by kernel_rfl) ?_
              apply go_val pre_kept
              · rintro ρ wr ⟨hg, hn, hc, hf, hgl⟩
                simp only [Need, fat, List.nil_append, List.cons_append, List.getD_cons_zero, List.getD_cons_succ, Fct.hold, and_true] at hn
                refine ⟨by simp [wantP, hn], ?_⟩
                simp [execOp, hn, hc, go_sem]
                exact rfl
              apply go_val pre_kept
              · rintro ρ wr ⟨hg, hn, hc, hf, hgl⟩
                simp only [Need, fat, List.nil_append, List.cons_append, List.getD_cons_zero, List.getD_cons_succ, Fct.hold, and_true] at hn
                refine ⟨by simp [wantP, hn], ?_⟩
                simp [execOp, hn, hc, go_sem]
                exact rfl
              apply go_val pre_kept
              · rintro ρ wr ⟨hg, hn, hc, hf, hgl⟩
                simp only [Need, fat, List.nil_append, List.cons_append, List.getD_cons_zero, List.getD_cons_succ, Fct.hold, and_true] at hn
                refine ⟨by simp [wantP, hn], ?_⟩
                simp [execOp, hn, hc, go_sem]
                exact rfl
              apply go_val pre_kept
              · rintro ρ wr ⟨hg, hn, hc, hf, hgl⟩
                simp only [Need, fat, List.nil_append, List.cons_append, List.getD_cons_zero, List.getD_cons_succ, Fct.hold, and_true] at hn
                have hl := And.intro (hg.cell c0) (And.intro (hg.cell c1) (hg.cell c2))
                refine ⟨by simp [wantP, hn], ?_⟩
                simp [execOp, hn, hc, hl, go_sem]
                exact rfl
              apply go_val (x := .bool true) pre_kept
              · rintro ρ wr ⟨hg, hn, hc, hf, hgl⟩
                simp only [Need, fat, List.nil_append, List.cons_append, List.getD_cons_zero, List.getD_cons_succ, Fct.hold, and_true] at hn
                refine ⟨by simp [wantP, hn], ?_⟩
                simp [execOp, hn, hc, go_sem]
              apply go_val pre_kept
              · rintro ρ wr ⟨hg, hn, hc, hf, hgl⟩
                simp only [Need, fat, List.nil_append, List.cons_append, List.getD_cons_zero, List.getD_cons_succ, Fct.hold, and_true] at hn
                refine ⟨by simp [wantP, hn], ?_⟩
                simp [execOp, hn, hc, go_sem]
                exact rfl
              apply go_val pre_kept
              · rintro ρ wr ⟨hg, hn, hc, hf, hgl⟩
                simp only [Need, fat, List.nil_append, List.cons_append, List.getD_cons_zero, List.getD_cons_succ, Fct.hold, and_true] at hn
                refine ⟨by simp [wantP, hn], ?_⟩
                simp [execOp, hn, hc, go_sem]
                exact rfl
              apply go_callv (x := .bool false)
              · rintro ρ wr ⟨hg, hn, hc, hf, hgl⟩
                simp only [Need, fat, List.nil_append, List.cons_append, List.getD_cons_zero, List.getD_cons_succ, Fct.hold, and_true] at hn
                refine ⟨by simp [wantP, hn], _, _, by simp [execOp, hn, hf, hc, resolve, invoke, go_sem]; exact ⟨rfl, rfl⟩, ?_⟩
                exact (is_any g s i 45 _ (((Kept.drew (Kept.refl _)).trans hg).blk H.out.1)).mono fun e w' ⟨h1, h2⟩ => ⟨_, h1, by rw [HB45.out], h2⟩
              apply go_val (x := .bool false) pre_kept
              · rintro ρ wr ⟨hg, hn, hc, hf, hgl⟩
                simp only [Need, fat, List.nil_append, List.cons_append, List.getD_cons_zero, List.getD_cons_succ, Fct.hold, and_true] at hn
                refine ⟨by simp [wantP, hn], ?_⟩
                simp [execOp, hn, hc, go_sem]
              apply go_val (x := .bool false) pre_kept
              · rintro ρ wr ⟨hg, hn, hc, hf, hgl⟩
                simp only [Need, fat, List.nil_append, List.cons_append, List.getD_cons_zero, List.getD_cons_succ, Fct.hold, and_true] at hn
                refine ⟨by simp [wantP, hn], ?_⟩
                simp [execOp, hn, hc, go_sem]
              refine go_not pre_kept ?_ ?_
              · rintro ρ wr ⟨hg, hn, hc, hf, hgl⟩
                simp only [Need, fat, List.nil_append, List.cons_append, List.getD_cons_zero, List.getD_cons_succ, Fct.hold, and_true] at hn
                simp [wantP, hn]
              refine go_not pre_kept ?_ ?_
              · rintro ρ wr ⟨hg, hn, hc, hf, hgl⟩
                simp only [Need, fat, List.nil_append, List.cons_append, List.getD_cons_zero, List.getD_cons_succ, Fct.hold, and_true] at hn
                simp [wantP, hn]
              refine go_not pre_kept ?_ ?_
              · rintro ρ wr ⟨hg, hn, hc, hf, hgl⟩
                simp only [Need, fat, List.nil_append, List.cons_append, List.getD_cons_zero, List.getD_cons_succ, Fct.hold, and_true] at hn
                simp [wantP, hn]
              refine go_not pre_kept ?_ ?_
              · rintro ρ wr ⟨hg, hn, hc, hf, hgl⟩
                simp only [Need, fat, List.nil_append, List.cons_append, List.getD_cons_zero, List.getD_cons_succ, Fct.hold, and_true] at hn
                simp [wantP, hn]
              refine go_not pre_kept ?_ ?_
              · rintro ρ wr ⟨hg, hn, hc, hf, hgl⟩
                simp only [Need, fat, List.nil_append, List.cons_append, List.getD_cons_zero, List.getD_cons_succ, Fct.hold, and_true] at hn
                simp [wantP, hn]
              refine go_not pre_kept ?_ ?_
              · rintro ρ wr ⟨hg, hn, hc, hf, hgl⟩
                simp only [Need, fat, List.nil_append, List.cons_append, List.getD_cons_zero, List.getD_cons_succ, Fct.hold, and_true] at hn
                simp [wantP, hn]
              refine go_not pre_kept ?_ ?_
              · rintro ρ wr ⟨hg, hn, hc, hf, hgl⟩
                simp only [Need, fat, List.nil_append, List.cons_append, List.getD_cons_zero, List.getD_cons_succ, Fct.hold, and_true] at hn
                simp [wantP, hn]
              refine go_not pre_kept ?_ ?_
              · rintro ρ wr ⟨hg, hn, hc, hf, hgl⟩
                simp only [Need, fat, List.nil_append, List.cons_append, List.getD_cons_zero, List.getD_cons_succ, Fct.hold, and_true] at hn
                simp [wantP, hn]
              refine go_not pre_kept ?_ ?_
              · rintro ρ wr ⟨hg, hn, hc, hf, hgl⟩
                simp only [Need, fat, List.nil_append, List.cons_append, List.getD_cons_zero, List.getD_cons_succ, Fct.hold, and_true] at hn
                simp [wantP, hn]
              refine go_not pre_kept ?_ ?_
              · rintro ρ wr ⟨hg, hn, hc, hf, hgl⟩
                simp only [Need, fat, List.nil_append, List.cons_append, List.getD_cons_zero, List.getD_cons_succ, Fct.hold, and_true] at hn
                simp [wantP, hn]
              refine go_not pre_kept ?_ ?_
              · rintro ρ wr ⟨hg, hn, hc, hf, hgl⟩
                simp only [Need, fat, List.nil_append, List.cons_append, List.getD_cons_zero, List.getD_cons_succ, Fct.hold, and_true] at hn
                simp [wantP, hn]
              apply go_val (x := .bool false) pre_kept
              · rintro ρ wr ⟨hg, hn, hc, hf, hgl⟩
                simp only [Need, fat, List.nil_append, List.cons_append, List.getD_cons_zero, List.getD_cons_succ, Fct.hold, and_true] at hn
                refine ⟨by simp [wantP, hn], ?_⟩
                simp [execOp, hn, hc, go_sem]
              apply go_val (x := .bool false) pre_kept
              · rintro ρ wr ⟨hg, hn, hc, hf, hgl⟩
                simp only [Need, fat, List.nil_append, List.cons_append, List.getD_cons_zero, List.getD_cons_succ, Fct.hold, and_true] at hn
                refine ⟨by simp [wantP, hn], ?_⟩
                simp [execOp, hn, hc, go_sem]
              refine go_not pre_kept ?_ ?_
              · rintro ρ wr ⟨hg, hn, hc, hf, hgl⟩
                simp only [Need, fat, List.nil_append, List.cons_append, List.getD_cons_zero, List.getD_cons_succ, Fct.hold, and_true] at hn
                simp [wantP, hn]
              refine go_not pre_kept ?_ ?_
              · rintro ρ wr ⟨hg, hn, hc, hf, hgl⟩
                simp only [Need, fat, List.nil_append, List.cons_append, List.getD_cons_zero, List.getD_cons_succ, Fct.hold, and_true] at hn
                simp [wantP, hn]
              refine go_not pre_kept ?_ ?_
              · rintro ρ wr ⟨hg, hn, hc, hf, hgl⟩
                simp only [Need, fat, List.nil_append, List.cons_append, List.getD_cons_zero, List.getD_cons_succ, Fct.hold, and_true] at hn
                simp [wantP, hn]
              refine go_not pre_kept ?_ ?_
              · rintro ρ wr ⟨hg, hn, hc, hf, hgl⟩
                simp only [Need, fat, List.nil_append, List.cons_append, List.getD_cons_zero, List.getD_cons_succ, Fct.hold, and_true] at hn
                simp [wantP, hn]
              refine go_not pre_kept ?_ ?_
              · rintro ρ wr ⟨hg, hn, hc, hf, hgl⟩
                simp only [Need, fat, List.nil_append, List.cons_append, List.getD_cons_zero, List.getD_cons_succ, Fct.hold, and_true] at hn
                simp [wantP, hn]
              refine go_not pre_kept ?_ ?_
              · rintro ρ wr ⟨hg, hn, hc, hf, hgl⟩
                simp only [Need, fat, List.nil_append, List.cons_append, List.getD_cons_zero, List.getD_cons_succ, Fct.hold, and_true] at hn
                simp [wantP, hn]
              refine go_not pre_kept ?_ ?_
              · rintro ρ wr ⟨hg, hn, hc, hf, hgl⟩
                simp only [Need, fat, List.nil_append, List.cons_append, List.getD_cons_zero, List.getD_cons_succ, Fct.hold, and_true] at hn
                simp [wantP, hn]
              refine go_not pre_kept ?_ ?_
              · rintro ρ wr ⟨hg, hn, hc, hf, hgl⟩
                simp only [Need, fat, List.nil_append, List.cons_append, List.getD_cons_zero, List.getD_cons_succ, Fct.hold, and_true] at hn
                simp [wantP, hn]
              refine go_not pre_kept ?_ ?_
              · rintro ρ wr ⟨hg, hn, hc, hf, hgl⟩
                simp only [Need, fat, List.nil_append, List.cons_append, List.getD_cons_zero, List.getD_cons_succ, Fct.hold, and_true] at hn
                simp [wantP, hn]
              refine go_not pre_kept ?_ ?_
              · rintro ρ wr ⟨hg, hn, hc, hf, hgl⟩
                simp only [Need, fat, List.nil_append, List.cons_append, List.getD_cons_zero, List.getD_cons_succ, Fct.hold, and_true] at hn
                simp [wantP, hn]
              refine go_not pre_kept ?_ ?_
              · rintro ρ wr ⟨hg, hn, hc, hf, hgl⟩
                simp only [Need, fat, List.nil_append, List.cons_append, List.getD_cons_zero, List.getD_cons_succ, Fct.hold, and_true] at hn
                simp [wantP, hn]
              apply go_val (x := .bool false) pre_kept
              · rintro ρ wr ⟨hg, hn, hc, hf, hgl⟩
                simp only [Need, fat, List.nil_append, List.cons_append, List.getD_cons_zero, List.getD_cons_succ, Fct.hold, and_true] at hn
                refine ⟨by simp [wantP, hn], ?_⟩
                simp [execOp, hn, hc, go_sem]
              intro wq hkq
              simp only [Post, List.nil_append, List.cons_append, Act.put, List.setIfInBounds_toArray, List.set_cons_zero, List.set_cons_succ]
              rename_i hK
              refine hK _ _ ?_
              clear hK
              replace H := Lib.hid (H.out.drawn hkq)
              clear hkq
              clear c0 c1 c2 c3 f0 f1 f2 f3
              go_wp2_with fail
              have HI := Lib.hid H.out
              go_loopg [9] (an + 1) (fun q v wr => ∃ t : Nat, v = .int .i64 ((an + t : Nat) : Int) ∧ an + t ≤ 256 ∧ an + 1 ≤ q + (an + t) ∧ t ≤ an + 1 - an ∧ StO g (RO s i) [(w.heap.size + 1, (.cells #[.int .u64 (wdN (putN X an t) 0), .int .u64 (wdN (putN X an t) 1), .int .u64 (wdN (putN X an t) 2), .int .u64 (wdN (putN X an t) 3)] 23)), (w.heap.size, (.cells #[.int .i64 0, .int .u64 0, .int .u64 0, .int .u64 0, .int .u64 0, .slice none 0 0] 26))] w wr)
              case atStart => exact ⟨0, rfl, by omega, by omega, by omega, HI.out⟩
              case round =>
                clear HI H
                obtain ⟨t, rfl, ht, hq2, ht2, hst⟩ := hrel
                have H := Lib.hid hst
                obtain ⟨⟨x0, x1, x2, x3⟩, -⟩ := box4 (hst.blk List.mem_cons_self)
                have hsbg := hst.ne List.mem_cons_self
                clear hst
                obtain ⟨c, hc⟩ : ∃ c, an + t = c := ⟨_, rfl⟩
                rw [hc] at ht hq2 ⊢
                have HC := Lib.hid hc
                clear hc
                by_cases hle : c ≤ an
                · go_wp2_with fail
                  have HP : (putN X an t ||| (1#256 <<< c)) = putN X an (t + 1) := by rw [putN_succ, HC.out]
                  have HW := with4 (putN X an t) c (by omega) wr
                  rw [HP] at HW
                  clear HP
                  refine HW.mono ?_
                  clear HW
                  rintro e w9 ⟨rfl, hk5⟩
                  clear x0 x1 x2 x3
                  have hb := (H.out.kept hk5).blk List.mem_cons_self
                  obtain ⟨⟨x0, x1, x2, x3⟩, y0, y1, y2, y3⟩ := box4 hb
                  have HN := Lib.hid ((((((H.out.kept hk5).drop.side (p := ⟨w.heap.size + 1, 0, none⟩) (Nat.le_succ _) hsbg (by simp) (.int .u64 (wdN (putN X an (t + 1)) 0))).side (p := ⟨w.heap.size + 1, 1, none⟩) (Nat.le_succ _) hsbg (by simp) (.int .u64 (wdN (putN X an (t + 1)) 1))).side (p := ⟨w.heap.size + 1, 2, none⟩) (Nat.le_succ _) hsbg (by simp) (.int .u64 (wdN (putN X an (t + 1)) 2))).side (p := ⟨w.heap.size + 1, 3, none⟩) (Nat.le_succ _) hsbg (by simp) (.int .u64 (wdN (putN X an (t + 1)) 3))).add (blk_set4 hb (.int .u64 (wdN (putN X an (t + 1)) 0)) (.int .u64 (wdN (putN X an (t + 1)) 1)) (.int .u64 (wdN (putN X an (t + 1)) 2)) (.int .u64 (wdN (putN X an (t + 1)) 3))) hsbg)
                  clear hb hk5
                  go_wp2_with fail
                  go_roundg (gk - 1)
                  case measure => omega
                  case rel => exact ⟨t + 1, by have := HC.out; congr 1; omega, by have := HC.out; omega, by have := HC.out; omega, by have := HC.out; omega, HN.out⟩
                · have hte : t = an + 1 - an := by have := HC.out; omega
                  subst hte
                  clear ht2
                  go_wp2_with fail
                  go_roundg (G - 1)
                  case measure => omega
                  case rel => exact ⟨m + 1, _, by go_num, .inl ⟨i, by omega, by omega, by omega, by rw [if_neg (fun h => by omega)]; exact HE.out, H.out⟩⟩
            | true =>
              have HB45 := Lib.hid h45
              obtain ⟨i1, hi1⟩ : ∃ i1, i + 1 = i1 := ⟨_, rfl⟩
              have hii : (i : Int) + 1 = i1 := by omega
              have hadd : IntKind.i64.wrap ((i : Int) + 1) = (i1 : Int) := by rw [IntWalk.i64_in _ (by omega)]; exact hii
              have hk0 : (0 : Int) ≤ i1 := by omega
              have hi1b : i1 ≤ 201 := by omega
              by_cases hl3 : i1 < s.size
              · obtain ⟨x, hix⟩ : ∃ x : Nat, s[i1].toNat = x := ⟨_, rfl⟩
                have hlt3 : (i1 : Int) < s.size := by omega
                have hxc : (x : Int) = 93 := by
                  unfold betw at hbt
                  rw [h45, hi1, byteAt_some hl3] at hbt
                  simp [hl3] at hbt
                  rw [← hix, hbt]
                  rfl
                clear h45 hbt hl han hi1
                go_wp2_with fail
                refine wp_region_go Kept pre_kept [([(0, none)], none), ([(50, some 0)], none), ([(51, some 1)], none), ([(52, some 2)], none), ([(53, some 3)], none), ([(54, some 4)], none), ([(0, none), (55, some 5)], some (55, true)), ([(56, some 6), (55, some 5)], some (55, true)), ([(55, some 5), (57, some 7)], none), ([(58, some 8)], none), ([(0, none), (59, some 9)], some (59, true)), ([(60, some 10), (59, some 9)], some (59, true)), ([(61, some 11), (59, some 9)], some (59, true)), ([(62, some 12), (59, some 9)], some (59, true)), ([(63, some 13), (59, some 9)], some (59, true)), ([(0, none), (59, some 9)], some (59, true)), ([(65, some 15), (59, some 9)], some (59, true)), ([(66, some 16), (59, some 9)], some (59, true)), ([(67, some 17), (59, some 9)], some (59, true)), ([(68, some 18), (59, some 9)], some (59, true)), ([(64, some 14), (69, some 19), (59, some 9)], some (59, true)), ([(59, some 9), (70, some 20)], none), ([(71, some 21)], none), ([(0, none), (72, some 22)], some (72, true)), ([(73, some 23), (72, some 22)], some (72, true)), ([(74, some 24), (72, some 22)], some (72, true)), ([(75, some 25), (72, some 22)], some (72, true)), ([(0, none), (72, some 22)], some (72, true)), ([(77, some 27), (72, some 22)], some (72, true)), ([(78, some 28), (72, some 22)], some (72, true)), ([(79, some 29), (72, some 22)], some (72, true)), ([(80, some 30), (72, some 22)], some (72, true)), ([(76, some 26), (81, some 31), (72, some 22)], some (72, true)), ([(82, some 32), (72, some 22)], some (72, true)), ([(72, some 22), (83, some 33)], none)] (by kernel_rfl) 145 rfl (by kernel_rfl) (by kernel_rfl) ?_
                apply go_val pre_kept
                · rintro ρ wr ⟨hg, hn, hc, hf, hgl⟩
                  simp only [Need, fat, List.nil_append, List.cons_append, List.getD_cons_zero, List.getD_cons_succ, Fct.hold, and_true] at hn
                  refine ⟨by simp [wantP, hn], ?_⟩
                  simp [execOp, hn, hc, go_sem]
                  exact rfl
                apply go_val pre_kept
                · rintro ρ wr ⟨hg, hn, hc, hf, hgl⟩
                  simp only [Need, fat, List.nil_append, List.cons_append, List.getD_cons_zero, List.getD_cons_succ, Fct.hold, and_true] at hn
                  refine ⟨by simp [wantP, hn], ?_⟩
                  simp [execOp, hn, hc, go_sem]
                  exact rfl
                apply go_val pre_kept
                · rintro ρ wr ⟨hg, hn, hc, hf, hgl⟩
                  simp only [Need, fat, List.nil_append, List.cons_append, List.getD_cons_zero, List.getD_cons_succ, Fct.hold, and_true] at hn
                  refine ⟨by simp [wantP, hn], ?_⟩
                  simp [execOp, hn, hc, go_sem]
                  exact rfl
                apply go_val pre_kept
                · rintro ρ wr ⟨hg, hn, hc, hf, hgl⟩
                  simp only [Need, fat, List.nil_append, List.cons_append, List.getD_cons_zero, List.getD_cons_succ, Fct.hold, and_true] at hn
                  have hl := And.intro (hg.cell c0) (And.intro (hg.cell c1) (hg.cell c2))
                  refine ⟨by simp [wantP, hn], ?_⟩
                  simp [execOp, hn, hc, hl, go_sem]
                  exact rfl
                apply go_val (x := .bool true) pre_kept
                · rintro ρ wr ⟨hg, hn, hc, hf, hgl⟩
                  simp only [Need, fat, List.nil_append, List.cons_append, List.getD_cons_zero, List.getD_cons_succ, Fct.hold, and_true] at hn
                  refine ⟨by simp [wantP, hn], ?_⟩
                  simp [execOp, hn, hc, go_sem]
                apply go_val pre_kept
                · rintro ρ wr ⟨hg, hn, hc, hf, hgl⟩
                  simp only [Need, fat, List.nil_append, List.cons_append, List.getD_cons_zero, List.getD_cons_succ, Fct.hold, and_true] at hn
                  refine ⟨by simp [wantP, hn], ?_⟩
                  simp [execOp, hn, hc, go_sem]
                  exact rfl
                apply go_val pre_kept
                · rintro ρ wr ⟨hg, hn, hc, hf, hgl⟩
                  simp only [Need, fat, List.nil_append, List.cons_append, List.getD_cons_zero, List.getD_cons_succ, Fct.hold, and_true] at hn
                  refine ⟨by simp [wantP, hn], ?_⟩
                  simp [execOp, hn, hc, go_sem]
                  exact rfl
                apply go_callv (x := .bool true)
                · rintro ρ wr ⟨hg, hn, hc, hf, hgl⟩
                  simp only [Need, fat, List.nil_append, List.cons_append, List.getD_cons_zero, List.getD_cons_succ, Fct.hold, and_true] at hn
                  refine ⟨by simp [wantP, hn], _, _, by simp [execOp, hn, hf, hc, resolve, invoke, go_sem]; exact ⟨rfl, rfl⟩, ?_⟩
                  exact (is_any g s i 45 _ (((Kept.drew (Kept.refl _)).trans hg).blk H.out.1)).mono fun e w' ⟨h1, h2⟩ => ⟨_, h1, by rw [HB45.out], h2⟩
                apply go_val (x := .bool true) pre_kept
                · rintro ρ wr ⟨hg, hn, hc, hf, hgl⟩
                  simp only [Need, fat, List.nil_append, List.cons_append, List.getD_cons_zero, List.getD_cons_succ, Fct.hold, and_true] at hn
                  refine ⟨by simp [wantP, hn], ?_⟩
                  simp [execOp, hn, hc, go_sem]
                apply go_val (x := .bool true) pre_kept
                · rintro ρ wr ⟨hg, hn, hc, hf, hgl⟩
                  simp only [Need, fat, List.nil_append, List.cons_append, List.getD_cons_zero, List.getD_cons_succ, Fct.hold, and_true] at hn
                  refine ⟨by simp [wantP, hn], ?_⟩
                  simp [execOp, hn, hc, go_sem]
                apply go_val pre_kept
                · rintro ρ wr ⟨hg, hn, hc, hf, hgl⟩
                  simp only [Need, fat, List.nil_append, List.cons_append, List.getD_cons_zero, List.getD_cons_succ, Fct.hold, and_true] at hn
                  refine ⟨by simp [wantP, hn], ?_⟩
                  simp [execOp, hn, hc, go_sem]
                  exact rfl
                apply go_val pre_kept
                · rintro ρ wr ⟨hg, hn, hc, hf, hgl⟩
                  simp only [Need, fat, List.nil_append, List.cons_append, List.getD_cons_zero, List.getD_cons_succ, Fct.hold, and_true] at hn
                  refine ⟨by simp [wantP, hn], ?_⟩
                  simp [execOp, hn, hc, go_sem]
                  exact rfl
                apply go_val pre_kept
                · rintro ρ wr ⟨hg, hn, hc, hf, hgl⟩
                  simp only [Need, fat, List.nil_append, List.cons_append, List.getD_cons_zero, List.getD_cons_succ, Fct.hold, and_true] at hn
                  refine ⟨by simp [wantP, hn], ?_⟩
                  simp [execOp, hn, hc, go_sem]
                  exact rfl
                apply go_val pre_kept
                · rintro ρ wr ⟨hg, hn, hc, hf, hgl⟩
                  simp only [Need, fat, List.nil_append, List.cons_append, List.getD_cons_zero, List.getD_cons_succ, Fct.hold, and_true] at hn
                  have hl := And.intro (hg.cell c0) (And.intro (hg.cell c1) (hg.cell c2))
                  refine ⟨by simp [wantP, hn], ?_⟩
                  simp [execOp, hn, hc, hl, go_sem]
                  exact rfl
                apply go_val (x := .int .i64 (i1 : Int)) pre_kept
                · rintro ρ wr ⟨hg, hn, hc, hf, hgl⟩
                  simp only [Need, fat, List.nil_append, List.cons_append, List.getD_cons_zero, List.getD_cons_succ, Fct.hold, and_true] at hn
                  refine ⟨by simp [wantP, hn], ?_⟩
                  simp [execOp, hn, hc, go_sem, hadd]
                apply go_val pre_kept
                · rintro ρ wr ⟨hg, hn, hc, hf, hgl⟩
                  simp only [Need, fat, List.nil_append, List.cons_append, List.getD_cons_zero, List.getD_cons_succ, Fct.hold, and_true] at hn
                  refine ⟨by simp [wantP, hn], ?_⟩
                  simp [execOp, hn, hc, go_sem]
                  exact rfl
                apply go_val pre_kept
                · rintro ρ wr ⟨hg, hn, hc, hf, hgl⟩
                  simp only [Need, fat, List.nil_append, List.cons_append, List.getD_cons_zero, List.getD_cons_succ, Fct.hold, and_true] at hn
                  refine ⟨by simp [wantP, hn], ?_⟩
                  simp [execOp, hn, hc, go_sem]
                  exact rfl
                apply go_val pre_kept
                · rintro ρ wr ⟨hg, hn, hc, hf, hgl⟩
                  simp only [Need, fat, List.nil_append, List.cons_append, List.getD_cons_zero, List.getD_cons_succ, Fct.hold, and_true] at hn
                  refine ⟨by simp [wantP, hn], ?_⟩
                  simp [execOp, hn, hc, go_sem]
                  exact rfl
                apply go_val pre_kept
                · rintro ρ wr ⟨hg, hn, hc, hf, hgl⟩
                  simp only [Need, fat, List.nil_append, List.cons_append, List.getD_cons_zero, List.getD_cons_succ, Fct.hold, and_true] at hn
                  have hl := And.intro (hg.cell c0) (And.intro (hg.cell c1) (hg.cell c2))
                  refine ⟨by simp [wantP, hn], ?_⟩
                  simp [execOp, hn, hc, hl, go_sem]
                  exact rfl
                apply go_val pre_kept
                · rintro ρ wr ⟨hg, hn, hc, hf, hgl⟩
                  simp only [Need, fat, List.nil_append, List.cons_append, List.getD_cons_zero, List.getD_cons_succ, Fct.hold, and_true] at hn
                  refine ⟨by simp [wantP, hn], ?_⟩
                  simp [execOp, hn, hc, go_sem]
                  exact rfl
                apply go_val (x := .bool true) pre_kept
                · rintro ρ wr ⟨hg, hn, hc, hf, hgl⟩
                  simp only [Need, fat, List.nil_append, List.cons_append, List.getD_cons_zero, List.getD_cons_succ, Fct.hold, and_true] at hn
                  refine ⟨by simp [wantP, hn], ?_⟩
                  simp [execOp, hn, hc, go_sem, hlt3]
                apply go_val (x := .bool true) pre_kept
                · rintro ρ wr ⟨hg, hn, hc, hf, hgl⟩
                  simp only [Need, fat, List.nil_append, List.cons_append, List.getD_cons_zero, List.getD_cons_succ, Fct.hold, and_true] at hn
                  refine ⟨by simp [wantP, hn], ?_⟩
                  simp [execOp, hn, hc, go_sem]
                apply go_val (x := .bool true) pre_kept
                · rintro ρ wr ⟨hg, hn, hc, hf, hgl⟩
                  simp only [Need, fat, List.nil_append, List.cons_append, List.getD_cons_zero, List.getD_cons_succ, Fct.hold, and_true] at hn
                  refine ⟨by simp [wantP, hn], ?_⟩
                  simp [execOp, hn, hc, go_sem]
                apply go_val pre_kept
                · rintro ρ wr ⟨hg, hn, hc, hf, hgl⟩
                  simp only [Need, fat, List.nil_append, List.cons_append, List.getD_cons_zero, List.getD_cons_succ, Fct.hold, and_true] at hn
                  refine ⟨by simp [wantP, hn], ?_⟩
                  simp [execOp, hn, hc, go_sem]
                  exact rfl
                apply go_val pre_kept
                · rintro ρ wr ⟨hg, hn, hc, hf, hgl⟩
                  simp only [Need, fat, List.nil_append, List.cons_append, List.getD_cons_zero, List.getD_cons_succ, Fct.hold, and_true] at hn
                  refine ⟨by simp [wantP, hn], ?_⟩
                  simp [execOp, hn, hc, go_sem]
                  exact rfl
                apply go_val pre_kept
                · rintro ρ wr ⟨hg, hn, hc, hf, hgl⟩
                  simp only [Need, fat, List.nil_append, List.cons_append, List.getD_cons_zero, List.getD_cons_succ, Fct.hold, and_true] at hn
                  refine ⟨by simp [wantP, hn], ?_⟩
                  simp [execOp, hn, hc, go_sem]
                  exact rfl
                apply go_val pre_kept
                · rintro ρ wr ⟨hg, hn, hc, hf, hgl⟩
                  simp only [Need, fat, List.nil_append, List.cons_append, List.getD_cons_zero, List.getD_cons_succ, Fct.hold, and_true] at hn
                  have hl := And.intro (hg.cell c0) (And.intro (hg.cell c1) (hg.cell c2))
                  refine ⟨by simp [wantP, hn], ?_⟩
                  simp [execOp, hn, hc, hl, go_sem]
                  exact rfl
                apply go_val pre_kept
                · rintro ρ wr ⟨hg, hn, hc, hf, hgl⟩
                  simp only [Need, fat, List.nil_append, List.cons_append, List.getD_cons_zero, List.getD_cons_succ, Fct.hold, and_true] at hn
                  refine ⟨by simp [wantP, hn], ?_⟩
                  simp [execOp, hn, hc, go_sem]
                  exact rfl
                apply go_val pre_kept
                · rintro ρ wr ⟨hg, hn, hc, hf, hgl⟩
                  simp only [Need, fat, List.nil_append, List.cons_append, List.getD_cons_zero, List.getD_cons_succ, Fct.hold, and_true] at hn
                  refine ⟨by simp [wantP, hn], ?_⟩
                  simp [execOp, hn, hc, go_sem]
                  exact rfl
                apply go_val pre_kept
                · rintro ρ wr ⟨hg, hn, hc, hf, hgl⟩
                  simp only [Need, fat, List.nil_append, List.cons_append, List.getD_cons_zero, List.getD_cons_succ, Fct.hold, and_true] at hn
                  refine ⟨by simp [wantP, hn], ?_⟩
                  simp [execOp, hn, hc, go_sem]
                  exact rfl
                apply go_val pre_kept
                · rintro ρ wr ⟨hg, hn, hc, hf, hgl⟩
                  simp only [Need, fat, List.nil_append, List.cons_append, List.getD_cons_zero, List.getD_cons_succ, Fct.hold, and_true] at hn
                  have hl := And.intro (hg.cell c0) (And.intro (hg.cell c1) (hg.cell c2))
                  refine ⟨by simp [wantP, hn], ?_⟩
                  simp [execOp, hn, hc, hl, go_sem]
                  exact rfl
                apply go_val (x := .int .i64 (i1 : Int)) pre_kept
                · rintro ρ wr ⟨hg, hn, hc, hf, hgl⟩
                  simp only [Need, fat, List.nil_append, List.cons_append, List.getD_cons_zero, List.getD_cons_succ, Fct.hold, and_true] at hn
                  refine ⟨by simp [wantP, hn], ?_⟩
                  simp [execOp, hn, hc, go_sem, hadd]
                apply go_val (x := .int .u8 (x : Int)) pre_kept
                · rintro ρ wr ⟨hg, hn, hc, hf, hgl⟩
                  simp only [Need, fat, List.nil_append, List.cons_append, List.getD_cons_zero, List.getD_cons_succ, Fct.hold, and_true] at hn
                  refine ⟨by simp [wantP, hn], ?_⟩
                  simp [execOp, hn, hc, go_sem, hix, hlt3, hk0]
                apply go_val (x := .bool false) pre_kept
                · rintro ρ wr ⟨hg, hn, hc, hf, hgl⟩
                  simp only [Need, fat, List.nil_append, List.cons_append, List.getD_cons_zero, List.getD_cons_succ, Fct.hold, and_true] at hn
                  refine ⟨by simp [wantP, hn], ?_⟩
                  simp [execOp, hn, hc, go_sem, hxc]
                apply go_val (x := .bool false) pre_kept
                · rintro ρ wr ⟨hg, hn, hc, hf, hgl⟩
                  simp only [Need, fat, List.nil_append, List.cons_append, List.getD_cons_zero, List.getD_cons_succ, Fct.hold, and_true] at hn
                  refine ⟨by simp [wantP, hn], ?_⟩
                  simp [execOp, hn, hc, go_sem]
                intro wq hkq
                simp only [Post, List.nil_append, List.cons_append, Act.put, List.setIfInBounds_toArray, List.set_cons_zero, List.set_cons_succ]
                rename_i hK
                refine hK _ _ ?_
                clear hK
                replace H := Lib.hid (H.out.drawn hkq)
                clear hkq
                clear c0 c1 c2 c3 f0 f1 f2 f3
                clear hxc hix
                go_wp2_with fail
                have HI := Lib.hid H.out
                go_loopg [9] (an + 1) (fun q v wr => ∃ t : Nat, v = .int .i64 ((an + t : Nat) : Int) ∧ an + t ≤ 256 ∧ an + 1 ≤ q + (an + t) ∧ t ≤ an + 1 - an ∧ StO g (RO s i) [(w.heap.size + 1, (.cells #[.int .u64 (wdN (putN X an t) 0), .int .u64 (wdN (putN X an t) 1), .int .u64 (wdN (putN X an t) 2), .int .u64 (wdN (putN X an t) 3)] 23)), (w.heap.size, (.cells #[.int .i64 0, .int .u64 0, .int .u64 0, .int .u64 0, .int .u64 0, .slice none 0 0] 26))] w wr)
                case atStart => exact ⟨0, rfl, by omega, by omega, by omega, HI.out⟩
                case round =>
                  clear HI H
                  obtain ⟨t, rfl, ht, hq2, ht2, hst⟩ := hrel
                  have H := Lib.hid hst
                  obtain ⟨⟨x0, x1, x2, x3⟩, -⟩ := box4 (hst.blk List.mem_cons_self)
                  have hsbg := hst.ne List.mem_cons_self
                  clear hst
                  obtain ⟨c, hc⟩ : ∃ c, an + t = c := ⟨_, rfl⟩
                  rw [hc] at ht hq2 ⊢
                  have HC := Lib.hid hc
                  clear hc
                  by_cases hle : c ≤ an
                  · go_wp2_with fail
                    have HP : (putN X an t ||| (1#256 <<< c)) = putN X an (t + 1) := by rw [putN_succ, HC.out]
                    have HW := with4 (putN X an t) c (by omega) wr
                    rw [HP] at HW
                    clear HP
                    refine HW.mono ?_
                    clear HW
                    rintro e w9 ⟨rfl, hk5⟩
                    clear x0 x1 x2 x3
                    have hb := (H.out.kept hk5).blk List.mem_cons_self
                    obtain ⟨⟨x0, x1, x2, x3⟩, y0, y1, y2, y3⟩ := box4 hb
                    have HN := Lib.hid ((((((H.out.kept hk5).drop.side (p := ⟨w.heap.size + 1, 0, none⟩) (Nat.le_succ _) hsbg (by simp) (.int .u64 (wdN (putN X an (t + 1)) 0))).side (p := ⟨w.heap.size + 1, 1, none⟩) (Nat.le_succ _) hsbg (by simp) (.int .u64 (wdN (putN X an (t + 1)) 1))).side (p := ⟨w.heap.size + 1, 2, none⟩) (Nat.le_succ _) hsbg (by simp) (.int .u64 (wdN (putN X an (t + 1)) 2))).side (p := ⟨w.heap.size + 1, 3, none⟩) (Nat.le_succ _) hsbg (by simp) (.int .u64 (wdN (putN X an (t + 1)) 3))).add (blk_set4 hb (.int .u64 (wdN (putN X an (t + 1)) 0)) (.int .u64 (wdN (putN X an (t + 1)) 1)) (.int .u64 (wdN (putN X an (t + 1)) 2)) (.int .u64 (wdN (putN X an (t + 1)) 3))) hsbg)
                    clear hb hk5
                    go_wp2_with fail
                    go_roundg (gk - 1)
                    case measure => omega
                    case rel => exact ⟨t + 1, by have := HC.out; congr 1; omega, by have := HC.out; omega, by have := HC.out; omega, by have := HC.out; omega, HN.out⟩
                  · have hte : t = an + 1 - an := by have := HC.out; omega
                    subst hte
                    clear ht2
                    go_wp2_with fail
                    go_roundg (G - 1)
                    case measure => omega
                    case rel => exact ⟨m + 1, _, by go_num, .inl ⟨i, by omega, by omega, by omega, by rw [if_neg (fun h => by omega)]; exact HE.out, H.out⟩⟩
              · have hlt3 : s.size ≤ i1 := by omega
                clear h45 hbt hl han hi1
                go_wp2_with fail
                refine wp_region_go Kept pre_kept [([(0, none)], none), ([(50, some 0)], none), ([(51, some 1)], none), ([(52, some 2)], none), ([(53, some 3)], none), ([(54, some 4)], none), ([(0, none), (55, some 5)], some (55, true)), ([(56, some 6), (55, some 5)], some (55, true)), ([(55, some 5), (57, some 7)], none), ([(58, some 8)], none), ([(0, none), (59, some 9)], some (59, true)), ([(60, some 10), (59, some 9)], some (59, true)), ([(61, some 11), (59, some 9)], some (59, true)), ([(62, some 12), (59, some 9)], some (59, true)), ([(63, some 13), (59, some 9)], some (59, true)), ([(0, none), (59, some 9)], some (59, true)), ([(65, some 15), (59, some 9)], some (59, true)), ([(66, some 16), (59, some 9)], some (59, true)), ([(67, some 17), (59, some 9)], some (59, true)), ([(68, some 18), (59, some 9)], some (59, true)), ([(64, some 14), (69, some 19), (59, some 9)], some (59, true)), ([(59, some 9), (70, some 20)], none), ([(71, some 21)], none), ([(0, none), (72, some 22)], some (72, true)), ([(73, some 23), (72, some 22)], some (72, true)), ([(74, some 24), (72, some 22)], some (72, true)), ([(75, some 25), (72, some 22)], some (72, true)), ([(0, none), (72, some 22)], some (72, true)), ([(77, some 27), (72, some 22)], some (72, true)), ([(78, some 28), (72, some 22)], some (72, true)), ([(79, some 29), (72, some 22)], some (72, true)), ([(80, some 30), (72, some 22)], some (72, true)), ([(76, some 26), (81, some 31), (72, some 22)], some (72, true)), ([(82, some 32), (72, some 22)], some (72, true)), ([(72, some 22), (83, some 33)], none)] (by kernel_rfl) 145 rfl (by kernel_rfl) (by kernel_rfl) ?_
                apply go_val pre_kept
                · rintro ρ wr ⟨hg, hn, hc, hf, hgl⟩
                  simp only [Need, fat, List.nil_append, List.cons_append, List.getD_cons_zero, List.getD_cons_succ, Fct.hold, and_true] at hn
                  refine ⟨by simp [wantP, hn], ?_⟩
                  simp [execOp, hn, hc, go_sem]
                  exact rfl
                apply go_val pre_kept
                · rintro ρ wr ⟨hg, hn, hc, hf, hgl⟩
                  simp only [Need, fat, List.nil_append, List.cons_append, List.getD_cons_zero, List.getD_cons_succ, Fct.hold, and_true] at hn
                  refine ⟨by simp [wantP, hn], ?_⟩
                  simp [execOp, hn, hc, go_sem]
                  exact rfl
                apply go_val pre_kept
                · rintro ρ wr ⟨hg, hn, hc, hf, hgl⟩
                  simp only [Need, fat, List.nil_append, List.cons_append, List.getD_cons_zero, List.getD_cons_succ, Fct.hold, and_true] at hn
                  refine ⟨by simp [wantP, hn], ?_⟩
                  simp [execOp, hn, hc, go_sem]
                  exact rfl
                apply go_val pre_kept
                · rintro ρ wr ⟨hg, hn, hc, hf, hgl⟩
                  simp only [Need, fat, List.nil_append, List.cons_append, List.getD_cons_zero, List.getD_cons_succ, Fct.hold, and_true] at hn
                  have hl := And.intro (hg.cell c0) (And.intro (hg.cell c1) (hg.cell c2))
                  refine ⟨by simp [wantP, hn], ?_⟩
                  simp [execOp, hn, hc, hl, go_sem]
                  exact rfl
                apply go_val (x := .bool true) pre_kept
                · rintro ρ wr ⟨hg, hn, hc, hf, hgl⟩
                  simp only [Need, fat, List.nil_append, List.cons_append, List.getD_cons_zero, List.getD_cons_succ, Fct.hold, and_true] at hn
                  refine ⟨by simp [wantP, hn], ?_⟩
                  simp [execOp, hn, hc, go_sem]
                apply go_val pre_kept
                · rintro ρ wr ⟨hg, hn, hc, hf, hgl⟩
                  simp only [Need, fat, List.nil_append, List.cons_append, List.getD_cons_zero, List.getD_cons_succ, Fct.hold, and_true] at hn
                  refine ⟨by simp [wantP, hn], ?_⟩
                  simp [execOp, hn, hc, go_sem]
                  exact rfl
                apply go_val pre_kept
                · rintro ρ wr ⟨hg, hn, hc, hf, hgl⟩
                  simp only [Need, fat, List.nil_append, List.cons_append, List.getD_cons_zero, List.getD_cons_succ, Fct.hold, and_true] at hn
                  refine ⟨by simp [wantP, hn], ?_⟩
                  simp [execOp, hn, hc, go_sem]
                  exact rfl
                apply go_callv (x := .bool true)
                · rintro ρ wr ⟨hg, hn, hc, hf, hgl⟩
                  simp only [Need, fat, List.nil_append, List.cons_append, List.getD_cons_zero, List.getD_cons_succ, Fct.hold, and_true] at hn
                  refine ⟨by simp [wantP, hn], _, _, by simp [execOp, hn, hf, hc, resolve, invoke, go_sem]; exact ⟨rfl, rfl⟩, ?_⟩
                  exact (is_any g s i 45 _ (((Kept.drew (Kept.refl _)).trans hg).blk H.out.1)).mono fun e w' ⟨h1, h2⟩ => ⟨_, h1, by rw [HB45.out], h2⟩
                apply go_val (x := .bool true) pre_kept
                · rintro ρ wr ⟨hg, hn, hc, hf, hgl⟩
                  simp only [Need, fat, List.nil_append, List.cons_append, List.getD_cons_zero, List.getD_cons_succ, Fct.hold, and_true] at hn
                  refine ⟨by simp [wantP, hn], ?_⟩
                  simp [execOp, hn, hc, go_sem]
                apply go_val (x := .bool true) pre_kept
                · rintro ρ wr ⟨hg, hn, hc, hf, hgl⟩
                  simp only [Need, fat, List.nil_append, List.cons_append, List.getD_cons_zero, List.getD_cons_succ, Fct.hold, and_true] at hn
                  refine ⟨by simp [wantP, hn], ?_⟩
                  simp [execOp, hn, hc, go_sem]
                apply go_val pre_kept
                · rintro ρ wr ⟨hg, hn, hc, hf, hgl⟩
                  simp only [Need, fat, List.nil_append, List.cons_append, List.getD_cons_zero, List.getD_cons_succ, Fct.hold, and_true] at hn
                  refine ⟨by simp [wantP, hn], ?_⟩
                  simp [execOp, hn, hc, go_sem]
                  exact rfl
                apply go_val pre_kept
                · rintro ρ wr ⟨hg, hn, hc, hf, hgl⟩
                  simp only [Need, fat, List.nil_append, List.cons_append, List.getD_cons_zero, List.getD_cons_succ, Fct.hold, and_true] at hn
                  refine ⟨by simp [wantP, hn], ?_⟩
                  simp [execOp, hn, hc, go_sem]
                  exact rfl
                apply go_val pre_kept
                · rintro ρ wr ⟨hg, hn, hc, hf, hgl⟩
                  simp only [Need, fat, List.nil_append, List.cons_append, List.getD_cons_zero, List.getD_cons_succ, Fct.hold, and_true] at hn
                  refine ⟨by simp [wantP, hn], ?_⟩
                  simp [execOp, hn, hc, go_sem]
                  exact rfl
                apply go_val pre_kept
                · rintro ρ wr ⟨hg, hn, hc, hf, hgl⟩
                  simp only [Need, fat, List.nil_append, List.cons_append, List.getD_cons_zero, List.getD_cons_succ, Fct.hold, and_true] at hn
                  have hl := And.intro (hg.cell c0) (And.intro (hg.cell c1) (hg.cell c2))
                  refine ⟨by simp [wantP, hn], ?_⟩
                  simp [execOp, hn, hc, hl, go_sem]
                  exact rfl
                apply go_val (x := .int .i64 (i1 : Int)) pre_kept
                · rintro ρ wr ⟨hg, hn, hc, hf, hgl⟩
                  simp only [Need, fat, List.nil_append, List.cons_append, List.getD_cons_zero, List.getD_cons_succ, Fct.hold, and_true] at hn
                  refine ⟨by simp [wantP, hn], ?_⟩
                  simp [execOp, hn, hc, go_sem, hadd]
                apply go_val pre_kept
                · rintro ρ wr ⟨hg, hn, hc, hf, hgl⟩
                  simp only [Need, fat, List.nil_append, List.cons_append, List.getD_cons_zero, List.getD_cons_succ, Fct.hold, and_true] at hn
                  refine ⟨by simp [wantP, hn], ?_⟩
                  simp [execOp, hn, hc, go_sem]
                  exact rfl
                apply go_val pre_kept
                · rintro ρ wr ⟨hg, hn, hc, hf, hgl⟩
                  simp only [Need, fat, List.nil_append, List.cons_append, List.getD_cons_zero, List.getD_cons_succ, Fct.hold, and_true] at hn
                  refine ⟨by simp [wantP, hn], ?_⟩
                  simp [execOp, hn, hc, go_sem]
                  exact rfl
                apply go_val pre_kept
                · rintro ρ wr ⟨hg, hn, hc, hf, hgl⟩
                  simp only [Need, fat, List.nil_append, List.cons_append, List.getD_cons_zero, List.getD_cons_succ, Fct.hold, and_true] at hn
                  refine ⟨by simp [wantP, hn], ?_⟩
                  simp [execOp, hn, hc, go_sem]
                  exact rfl
                apply go_val pre_kept
                · rintro ρ wr ⟨hg, hn, hc, hf, hgl⟩
                  simp only [Need, fat, List.nil_append, List.cons_append, List.getD_cons_zero, List.getD_cons_succ, Fct.hold, and_true] at hn
                  have hl := And.intro (hg.cell c0) (And.intro (hg.cell c1) (hg.cell c2))
                  refine ⟨by simp [wantP, hn], ?_⟩
                  simp [execOp, hn, hc, hl, go_sem]
                  exact rfl
                apply go_val pre_kept
                · rintro ρ wr ⟨hg, hn, hc, hf, hgl⟩
                  simp only [Need, fat, List.nil_append, List.cons_append, List.getD_cons_zero, List.getD_cons_succ, Fct.hold, and_true] at hn
                  refine ⟨by simp [wantP, hn], ?_⟩
                  simp [execOp, hn, hc, go_sem]
                  exact rfl
                apply go_val (x := .bool false) pre_kept
                · rintro ρ wr ⟨hg, hn, hc, hf, hgl⟩
                  simp only [Need, fat, List.nil_append, List.cons_append, List.getD_cons_zero, List.getD_cons_succ, Fct.hold, and_true] at hn
                  refine ⟨by simp [wantP, hn], ?_⟩
                  simp [execOp, hn, hc, go_sem, hlt3]
                apply go_val (x := .bool false) pre_kept
                · rintro ρ wr ⟨hg, hn, hc, hf, hgl⟩
                  simp only [Need, fat, List.nil_append, List.cons_append, List.getD_cons_zero, List.getD_cons_succ, Fct.hold, and_true] at hn
                  refine ⟨by simp [wantP, hn], ?_⟩
                  simp [execOp, hn, hc, go_sem]
                apply go_val (x := .bool false) pre_kept
                · rintro ρ wr ⟨hg, hn, hc, hf, hgl⟩
                  simp only [Need, fat, List.nil_append, List.cons_append, List.getD_cons_zero, List.getD_cons_succ, Fct.hold, and_true] at hn
                  refine ⟨by simp [wantP, hn], ?_⟩
                  simp [execOp, hn, hc, go_sem]
                refine go_not pre_kept ?_ ?_
                · rintro ρ wr ⟨hg, hn, hc, hf, hgl⟩
                  simp only [Need, fat, List.nil_append, List.cons_append, List.getD_cons_zero, List.getD_cons_succ, Fct.hold, and_true] at hn
                  simp [wantP, hn]
                refine go_not pre_kept ?_ ?_
                · rintro ρ wr ⟨hg, hn, hc, hf, hgl⟩
                  simp only [Need, fat, List.nil_append, List.cons_append, List.getD_cons_zero, List.getD_cons_succ, Fct.hold, and_true] at hn
                  simp [wantP, hn]
                refine go_not pre_kept ?_ ?_
                · rintro ρ wr ⟨hg, hn, hc, hf, hgl⟩
                  simp only [Need, fat, List.nil_append, List.cons_append, List.getD_cons_zero, List.getD_cons_succ, Fct.hold, and_true] at hn
                  simp [wantP, hn]
                refine go_not pre_kept ?_ ?_
                · rintro ρ wr ⟨hg, hn, hc, hf, hgl⟩
                  simp only [Need, fat, List.nil_append, List.cons_append, List.getD_cons_zero, List.getD_cons_succ, Fct.hold, and_true] at hn
                  simp [wantP, hn]
                refine go_not pre_kept ?_ ?_
                · rintro ρ wr ⟨hg, hn, hc, hf, hgl⟩
                  simp only [Need, fat, List.nil_append, List.cons_append, List.getD_cons_zero, List.getD_cons_succ, Fct.hold, and_true] at hn
                  simp [wantP, hn]
                refine go_not pre_kept ?_ ?_
                · rintro ρ wr ⟨hg, hn, hc, hf, hgl⟩
                  simp only [Need, fat, List.nil_append, List.cons_append, List.getD_cons_zero, List.getD_cons_succ, Fct.hold, and_true] at hn
                  simp [wantP, hn]
                refine go_not pre_kept ?_ ?_
                · rintro ρ wr ⟨hg, hn, hc, hf, hgl⟩
                  simp only [Need, fat, List.nil_append, List.cons_append, List.getD_cons_zero, List.getD_cons_succ, Fct.hold, and_true] at hn
                  simp [wantP, hn]
                refine go_not pre_kept ?_ ?_
                · rintro ρ wr ⟨hg, hn, hc, hf, hgl⟩
                  simp only [Need, fat, List.nil_append, List.cons_append, List.getD_cons_zero, List.getD_cons_succ, Fct.hold, and_true] at hn
                  simp [wantP, hn]
                refine go_not pre_kept ?_ ?_
                · rintro ρ wr ⟨hg, hn, hc, hf, hgl⟩
                  simp only [Need, fat, List.nil_append, List.cons_append, List.getD_cons_zero, List.getD_cons_succ, Fct.hold, and_true] at hn
                  simp [wantP, hn]
                refine go_not pre_kept ?_ ?_
                · rintro ρ wr ⟨hg, hn, hc, hf, hgl⟩
                  simp only [Need, fat, List.nil_append, List.cons_append, List.getD_cons_zero, List.getD_cons_succ, Fct.hold, and_true] at hn
                  simp [wantP, hn]
                refine go_not pre_kept ?_ ?_
                · rintro ρ wr ⟨hg, hn, hc, hf, hgl⟩
                  simp only [Need, fat, List.nil_append, List.cons_append, List.getD_cons_zero, List.getD_cons_succ, Fct.hold, and_true] at hn
                  simp [wantP, hn]
                apply go_val (x := .bool false) pre_kept
                · rintro ρ wr ⟨hg, hn, hc, hf, hgl⟩
                  simp only [Need, fat, List.nil_append, List.cons_append, List.getD_cons_zero, List.getD_cons_succ, Fct.hold, and_true] at hn
                  refine ⟨by simp [wantP, hn], ?_⟩
                  simp [execOp, hn, hc, go_sem]
                intro wq hkq
                simp only [Post, List.nil_append, List.cons_append, Act.put, List.setIfInBounds_toArray, List.set_cons_zero, List.set_cons_succ]
                rename_i hK
                refine hK _ _ ?_
                clear hK
                replace H := Lib.hid (H.out.drawn hkq)
                clear hkq
                clear c0 c1 c2 c3 f0 f1 f2 f3
                go_wp2_with fail
                have HI := Lib.hid H.out
                go_loopg [9] (an + 1) (fun q v wr => ∃ t : Nat, v = .int .i64 ((an + t : Nat) : Int) ∧ an + t ≤ 256 ∧ an + 1 ≤ q + (an + t) ∧ t ≤ an + 1 - an ∧ StO g (RO s i) [(w.heap.size + 1, (.cells #[.int .u64 (wdN (putN X an t) 0), .int .u64 (wdN (putN X an t) 1), .int .u64 (wdN (putN X an t) 2), .int .u64 (wdN (putN X an t) 3)] 23)), (w.heap.size, (.cells #[.int .i64 0, .int .u64 0, .int .u64 0, .int .u64 0, .int .u64 0, .slice none 0 0] 26))] w wr)
                case atStart => exact ⟨0, rfl, by omega, by omega, by omega, HI.out⟩
                case round =>
                  clear HI H
                  obtain ⟨t, rfl, ht, hq2, ht2, hst⟩ := hrel
                  have H := Lib.hid hst
                  obtain ⟨⟨x0, x1, x2, x3⟩, -⟩ := box4 (hst.blk List.mem_cons_self)
                  have hsbg := hst.ne List.mem_cons_self
                  clear hst
                  obtain ⟨c, hc⟩ : ∃ c, an + t = c := ⟨_, rfl⟩
                  rw [hc] at ht hq2 ⊢
                  have HC := Lib.hid hc
                  clear hc
                  by_cases hle : c ≤ an
                  · go_wp2_with fail
                    have HP : (putN X an t ||| (1#256 <<< c)) = putN X an (t + 1) := by rw [putN_succ, HC.out]
                    have HW := with4 (putN X an t) c (by omega) wr
                    rw [HP] at HW
                    clear HP
                    refine HW.mono ?_
                    clear HW
                    rintro e w9 ⟨rfl, hk5⟩
                    clear x0 x1 x2 x3
                    have hb := (H.out.kept hk5).blk List.mem_cons_self
                    obtain ⟨⟨x0, x1, x2, x3⟩, y0, y1, y2, y3⟩ := box4 hb
                    have HN := Lib.hid ((((((H.out.kept hk5).drop.side (p := ⟨w.heap.size + 1, 0, none⟩) (Nat.le_succ _) hsbg (by simp) (.int .u64 (wdN (putN X an (t + 1)) 0))).side (p := ⟨w.heap.size + 1, 1, none⟩) (Nat.le_succ _) hsbg (by simp) (.int .u64 (wdN (putN X an (t + 1)) 1))).side (p := ⟨w.heap.size + 1, 2, none⟩) (Nat.le_succ _) hsbg (by simp) (.int .u64 (wdN (putN X an (t + 1)) 2))).side (p := ⟨w.heap.size + 1, 3, none⟩) (Nat.le_succ _) hsbg (by simp) (.int .u64 (wdN (putN X an (t + 1)) 3))).add (blk_set4 hb (.int .u64 (wdN (putN X an (t + 1)) 0)) (.int .u64 (wdN (putN X an (t + 1)) 1)) (.int .u64 (wdN (putN X an (t + 1)) 2)) (.int .u64 (wdN (putN X an (t + 1)) 3))) hsbg)
                    clear hb hk5
                    go_wp2_with fail
                    go_roundg (gk - 1)
                    case measure => omega
                    case rel => exact ⟨t + 1, by have := HC.out; congr 1; omega, by have := HC.out; omega, by have := HC.out; omega, by have := HC.out; omega, HN.out⟩
                  · have hte : t = an + 1 - an := by have := HC.out; omega
                    subst hte
                    clear ht2
                    go_wp2_with fail
                    go_roundg (G - 1)
                    case measure => omega
                    case rel => exact ⟨m + 1, _, by go_num, .inl ⟨i, by omega, by omega, by omega, by rw [if_neg (fun h => by omega)]; exact HE.out, H.out⟩⟩
          | true =>
            obtain ⟨i1, hi1⟩ : ∃ i1, i + 1 = i1 := ⟨_, rfl⟩
            have hii : (i : Int) + 1 = i1 := by omega
            have hadd : IntKind.i64.wrap ((i : Int) + 1) = (i1 : Int) := by rw [IntWalk.i64_in _ (by omega)]; exact hii
            have hk0 : (0 : Int) ≤ i1 := by omega
            have hi1b : i1 ≤ 201 := by omega
            have h45 : (byteAt s i == some 45) = true := by
              unfold betw at hbt
              revert hbt
              cases byteAt s i == some 45 <;> simp
            have hl3 : i1 < s.size := by
              unfold betw at hbt
              rw [h45, hi1] at hbt
              simp at hbt
              omega
            obtain ⟨x, hix⟩ : ∃ x : Nat, s[i1].toNat = x := ⟨_, rfl⟩
            have hxc : ¬ (x : Int) = 93 := by
              unfold betw at hbt
              rw [h45, hi1, byteAt_some hl3] at hbt
              simp [hl3] at hbt
              intro hx
              apply hbt
              apply UInt8.toNat_inj.1
              rw [hix]
              show x = 93
              omega
            have hlt3 : (i1 : Int) < s.size := by omega
            have HB45 := Lib.hid h45
            have HIT := Lib.hid (show itemP s j = (match litP s i1 with | .err e i => .err e i | .ok b i => if b < a then .err 2 i1 else .ok (a, b) i) from by
              unfold itemP; rw [hl]; simp only [hbt, if_true]; rw [hi1]; cases litP s i1 <;> rfl)
            clear h45 hbt hl hi1
            go_wp2_with fail
            refine wp_region_go Kept pre_kept [([(0, none)], none), ([(50, some 0)], none), ([(51, some 1)], none), ([(52, some 2)], none), ([(53, some 3)], none), ([(54, some 4)], none), ([(0, none), (55, some 5)], some (55, true)), ([(56, some 6), (55, some 5)], some (55, true)), ([(55, some 5), (57, some 7)], none), ([(58, some 8)], none), ([(0, none), (59, some 9)], some (59, true)), ([(60, some 10), (59, some 9)], some (59, true)), ([(61, some 11), (59, some 9)], some (59, true)), ([(62, some 12), (59, some 9)], some (59, true)), ([(63, some 13), (59, some 9)], some (59, true)), ([(0, none), (59, some 9)], some (59, true)), ([(65, some 15), (59, some 9)], some (59, true)), ([(66, some 16), (59, some 9)], some (59, true)), ([(67, some 17), (59, some 9)], some (59, true)), ([(68, some 18), (59, some 9)], some (59, true)), ([(64, some 14), (69, some 19), (59, some 9)], some (59, true)), ([(59, some 9), (70, some 20)], none), ([(71, some 21)], none), ([(0, none), (72, some 22)], some (72, true)), ([(73, some 23), (72, some 22)], some (72, true)), ([(74, some 24), (72, some 22)], some (72, true)), ([(75, some 25), (72, some 22)], some (72, true)), ([(0, none), (72, some 22)], some (72, true)), ([(77, some 27), (72, some 22)], some (72, true)), ([(78, some 28), (72, some 22)], some (72, true)), ([(79, some 29), (72, some 22)], some (72, true)), ([(80, some 30), (72, some 22)], some (72, true)), ([(76, some 26), (81, some 31), (72, some 22)], some (72, true)), ([(82, some 32), (72, some 22)], some (72, true)), ([(72, some 22), (83, some 33)], none)] (by kernel_rfl) 145 rfl (by kernel_rfl) (by kernel_rfl) ?_
            apply go_val pre_kept
            · rintro ρ wr ⟨hg, hn, hc, hf, hgl⟩
              simp only [Need, fat, List.nil_append, List.cons_append, List.getD_cons_zero, List.getD_cons_succ, Fct.hold, and_true] at hn
              refine ⟨by simp [wantP, hn], ?_⟩
              simp [execOp, hn, hc, go_sem]
              exact rfl
            apply go_val pre_kept
            · rintro ρ wr ⟨hg, hn, hc, hf, hgl⟩
              simp only [Need, fat, List.nil_append, List.cons_append, List.getD_cons_zero, List.getD_cons_succ, Fct.hold, and_true] at hn
              refine ⟨by simp [wantP, hn], ?_⟩
              simp [execOp, hn, hc, go_sem]
              exact rfl
            apply go_val pre_kept
            · rintro ρ wr ⟨hg, hn, hc, hf, hgl⟩
              simp only [Need, fat, List.nil_append, List.cons_append, List.getD_cons_zero, List.getD_cons_succ, Fct.hold, and_true] at hn
              refine ⟨by simp [wantP, hn], ?_⟩
              simp [execOp, hn, hc, go_sem]
              exact rfl
            apply go_val pre_kept
            · rintro ρ wr ⟨hg, hn, hc, hf, hgl⟩
              simp only [Need, fat, List.nil_append, List.cons_append, List.getD_cons_zero, List.getD_cons_succ, Fct.hold, and_true] at hn
              have hl := And.intro (hg.cell c0) (And.intro (hg.cell c1) (hg.cell c2))
              refine ⟨by simp [wantP, hn], ?_⟩
              simp [execOp, hn, hc, hl, go_sem]
              exact rfl
            apply go_val (x := .bool true) pre_kept
            · rintro ρ wr ⟨hg, hn, hc, hf, hgl⟩
              simp only [Need, fat, List.nil_append, List.cons_append, List.getD_cons_zero, List.getD_cons_succ, Fct.hold, and_true] at hn
              refine ⟨by simp [wantP, hn], ?_⟩
              simp [execOp, hn, hc, go_sem]
            apply go_val pre_kept
            · rintro ρ wr ⟨hg, hn, hc, hf, hgl⟩
              simp only [Need, fat, List.nil_append, List.cons_append, List.getD_cons_zero, List.getD_cons_succ, Fct.hold, and_true] at hn
              refine ⟨by simp [wantP, hn], ?_⟩
              simp [execOp, hn, hc, go_sem]
              exact rfl
            apply go_val pre_kept
            · rintro ρ wr ⟨hg, hn, hc, hf, hgl⟩
              simp only [Need, fat, List.nil_append, List.cons_append, List.getD_cons_zero, List.getD_cons_succ, Fct.hold, and_true] at hn
              refine ⟨by simp [wantP, hn], ?_⟩
              simp [execOp, hn, hc, go_sem]
              exact rfl
            apply go_callv (x := .bool true)
            · rintro ρ wr ⟨hg, hn, hc, hf, hgl⟩
              simp only [Need, fat, List.nil_append, List.cons_append, List.getD_cons_zero, List.getD_cons_succ, Fct.hold, and_true] at hn
              refine ⟨by simp [wantP, hn], _, _, by simp [execOp, hn, hf, hc, resolve, invoke, go_sem]; exact ⟨rfl, rfl⟩, ?_⟩
              exact (is_any g s i 45 _ (((Kept.drew (Kept.refl _)).trans hg).blk H.out.1)).mono fun e w' ⟨h1, h2⟩ => ⟨_, h1, by rw [HB45.out], h2⟩
            apply go_val (x := .bool true) pre_kept
            · rintro ρ wr ⟨hg, hn, hc, hf, hgl⟩
              simp only [Need, fat, List.nil_append, List.cons_append, List.getD_cons_zero, List.getD_cons_succ, Fct.hold, and_true] at hn
              refine ⟨by simp [wantP, hn], ?_⟩
              simp [execOp, hn, hc, go_sem]
            apply go_val (x := .bool true) pre_kept
            · rintro ρ wr ⟨hg, hn, hc, hf, hgl⟩
              simp only [Need, fat, List.nil_append, List.cons_append, List.getD_cons_zero, List.getD_cons_succ, Fct.hold, and_true] at hn
              refine ⟨by simp [wantP, hn], ?_⟩
              simp [execOp, hn, hc, go_sem]
            apply go_val pre_kept
            · rintro ρ wr ⟨hg, hn, hc, hf, hgl⟩
              simp only [Need, fat, List.nil_append, List.cons_append, List.getD_cons_zero, List.getD_cons_succ, Fct.hold, and_true] at hn
              refine ⟨by simp [wantP, hn], ?_⟩
              simp [execOp, hn, hc, go_sem]
              exact rfl
            apply go_val pre_kept
            · rintro ρ wr ⟨hg, hn, hc, hf, hgl⟩
              simp only [Need, fat, List.nil_append, List.cons_append, List.getD_cons_zero, List.getD_cons_succ, Fct.hold, and_true] at hn
              refine ⟨by simp [wantP, hn], ?_⟩
              simp [execOp, hn, hc, go_sem]
              exact rfl
            apply go_val pre_kept
            · rintro ρ wr ⟨hg, hn, hc, hf, hgl⟩
              simp only [Need, fat, List.nil_append, List.cons_append, List.getD_cons_zero, List.getD_cons_succ, Fct.hold, and_true] at hn
              refine ⟨by simp [wantP, hn], ?_⟩
              simp [execOp, hn, hc, go_sem]
              exact rfl
            apply go_val pre_kept
            · rintro ρ wr ⟨hg, hn, hc, hf, hgl⟩
              simp only [Need, fat, List.nil_append, List.cons_append, List.getD_cons_zero, List.getD_cons_succ, Fct.hold, and_true] at hn
              have hl := And.intro (hg.cell c0) (And.intro (hg.cell c1) (hg.cell c2))
              refine ⟨by simp [wantP, hn], ?_⟩
              simp [execOp, hn, hc, hl, go_sem]
              exact rfl
            apply go_val (x := .int .i64 (i1 : Int)) pre_kept
            · rintro ρ wr ⟨hg, hn, hc, hf, hgl⟩
              simp only [Need, fat, List.nil_append, List.cons_append, List.getD_cons_zero, List.getD_cons_succ, Fct.hold, and_true] at hn
              refine ⟨by simp [wantP, hn], ?_⟩
              simp [execOp, hn, hc, go_sem, hadd]
            apply go_val pre_kept
            · rintro ρ wr ⟨hg, hn, hc, hf, hgl⟩
              simp only [Need, fat, List.nil_append, List.cons_append, List.getD_cons_zero, List.getD_cons_succ, Fct.hold, and_true] at hn
              refine ⟨by simp [wantP, hn], ?_⟩
              simp [execOp, hn, hc, go_sem]
              exact rfl
            apply go_val pre_kept
            · rintro ρ wr ⟨hg, hn, hc, hf, hgl⟩
              simp only [Need, fat, List.nil_append, List.cons_append, List.getD_cons_zero, List.getD_cons_succ, Fct.hold, and_true] at hn
              refine ⟨by simp [wantP, hn], ?_⟩
              simp [execOp, hn, hc, go_sem]
              exact rfl
            apply go_val pre_kept
            · rintro ρ wr ⟨hg, hn, hc, hf, hgl⟩
              simp only [Need, fat, List.nil_append, List.cons_append, List.getD_cons_zero, List.getD_cons_succ, Fct.hold, and_true] at hn
              refine ⟨by simp [wantP, hn], ?_⟩
              simp [execOp, hn, hc, go_sem]
              exact rfl
            apply go_val pre_kept
            · rintro ρ wr ⟨hg, hn, hc, hf, hgl⟩
              simp only [Need, fat, List.nil_append, List.cons_append, List.getD_cons_zero, List.getD_cons_succ, Fct.hold, and_true] at hn
              have hl := And.intro (hg.cell c0) (And.intro (hg.cell c1) (hg.cell c2))
              refine ⟨by simp [wantP, hn], ?_⟩
              simp [execOp, hn, hc, hl, go_sem]
              exact rfl
            apply go_val pre_kept
            · rintro ρ wr ⟨hg, hn, hc, hf, hgl⟩
              simp only [Need, fat, List.nil_append, List.cons_append, List.getD_cons_zero, List.getD_cons_succ, Fct.hold, and_true] at hn
              refine ⟨by simp [wantP, hn], ?_⟩
              simp [execOp, hn, hc, go_sem]
              exact rfl
            apply go_val (x := .bool true) pre_kept
            · rintro ρ wr ⟨hg, hn, hc, hf, hgl⟩
              simp only [Need, fat, List.nil_append, List.cons_append, List.getD_cons_zero, List.getD_cons_succ, Fct.hold, and_true] at hn
              refine ⟨by simp [wantP, hn], ?_⟩
              simp [execOp, hn, hc, go_sem, hlt3]
            apply go_val (x := .bool true) pre_kept
            · rintro ρ wr ⟨hg, hn, hc, hf, hgl⟩
              simp only [Need, fat, List.nil_append, List.cons_append, List.getD_cons_zero, List.getD_cons_succ, Fct.hold, and_true] at hn
              refine ⟨by simp [wantP, hn], ?_⟩
              simp [execOp, hn, hc, go_sem]
            apply go_val (x := .bool true) pre_kept
            · rintro ρ wr ⟨hg, hn, hc, hf, hgl⟩
              simp only [Need, fat, List.nil_append, List.cons_append, List.getD_cons_zero, List.getD_cons_succ, Fct.hold, and_true] at hn
              refine ⟨by simp [wantP, hn], ?_⟩
              simp [execOp, hn, hc, go_sem]
            apply go_val pre_kept
            · rintro ρ wr ⟨hg, hn, hc, hf, hgl⟩
              simp only [Need, fat, List.nil_append, List.cons_append, List.getD_cons_zero, List.getD_cons_succ, Fct.hold, and_true] at hn
              refine ⟨by simp [wantP, hn], ?_⟩
              simp [execOp, hn, hc, go_sem]
              exact rfl
            apply go_val pre_kept
            · rintro ρ wr ⟨hg, hn, hc, hf, hgl⟩
              simp only [Need, fat, List.nil_append, List.cons_append, List.getD_cons_zero, List.getD_cons_succ, Fct.hold, and_true] at hn
              refine ⟨by simp [wantP, hn], ?_⟩
              simp [execOp, hn, hc, go_sem]
              exact rfl
            apply go_val pre_kept
            · rintro ρ wr ⟨hg, hn, hc, hf, hgl⟩
              simp only [Need, fat, List.nil_append, List.cons_append, List.getD_cons_zero, List.getD_cons_succ, Fct.hold, and_true] at hn
              refine ⟨by simp [wantP, hn], ?_⟩
              simp [execOp, hn, hc, go_sem]
              exact rfl
            apply go_val pre_kept
            · rintro ρ wr ⟨hg, hn, hc, hf, hgl⟩
              simp only [Need, fat, List.nil_append, List.cons_append, List.getD_cons_zero, List.getD_cons_succ, Fct.hold, and_true] at hn
              have hl := And.intro (hg.cell c0) (And.intro (hg.cell c1) (hg.cell c2))
              refine ⟨by simp [wantP, hn], ?_⟩
              simp [execOp, hn, hc, hl, go_sem]
              exact rfl
            apply go_val pre_kept
            · rintro ρ wr ⟨hg, hn, hc, hf, hgl⟩
              simp only [Need, fat, List.nil_append, List.cons_append, List.getD_cons_zero, List.getD_cons_succ, Fct.hold, and_true] at hn
              refine ⟨by simp [wantP, hn], ?_⟩
              simp [execOp, hn, hc, go_sem]
              exact rfl
            apply go_val pre_kept
            · rintro ρ wr ⟨hg, hn, hc, hf, hgl⟩
              simp only [Need, fat, List.nil_append, List.cons_append, List.getD_cons_zero, List.getD_cons_succ, Fct.hold, and_true] at hn
              refine ⟨by simp [wantP, hn], ?_⟩
              simp [execOp, hn, hc, go_sem]
              exact rfl
            apply go_val pre_kept
            · rintro ρ wr ⟨hg, hn, hc, hf, hgl⟩
              simp only [Need, fat, List.nil_append, List.cons_append, List.getD_cons_zero, List.getD_cons_succ, Fct.hold, and_true] at hn
              refine ⟨by simp [wantP, hn], ?_⟩
              simp [execOp, hn, hc, go_sem]
              exact rfl
            apply go_val pre_kept
            · rintro ρ wr ⟨hg, hn, hc, hf, hgl⟩
              simp only [Need, fat, List.nil_append, List.cons_append, List.getD_cons_zero, List.getD_cons_succ, Fct.hold, and_true] at hn
              have hl := And.intro (hg.cell c0) (And.intro (hg.cell c1) (hg.cell c2))
              refine ⟨by simp [wantP, hn], ?_⟩
              simp [execOp, hn, hc, hl, go_sem]
              exact rfl
            apply go_val (x := .int .i64 (i1 : Int)) pre_kept
            · rintro ρ wr ⟨hg, hn, hc, hf, hgl⟩
              simp only [Need, fat, List.nil_append, List.cons_append, List.getD_cons_zero, List.getD_cons_succ, Fct.hold, and_true] at hn
              refine ⟨by simp [wantP, hn], ?_⟩
              simp [execOp, hn, hc, go_sem, hadd]
            apply go_val (x := .int .u8 (x : Int)) pre_kept
            · rintro ρ wr ⟨hg, hn, hc, hf, hgl⟩
              simp only [Need, fat, List.nil_append, List.cons_append, List.getD_cons_zero, List.getD_cons_succ, Fct.hold, and_true] at hn
              refine ⟨by simp [wantP, hn], ?_⟩
              simp [execOp, hn, hc, go_sem, hix, hlt3, hk0]
            apply go_val (x := .bool true) pre_kept
            · rintro ρ wr ⟨hg, hn, hc, hf, hgl⟩
              simp only [Need, fat, List.nil_append, List.cons_append, List.getD_cons_zero, List.getD_cons_succ, Fct.hold, and_true] at hn
              refine ⟨by simp [wantP, hn], ?_⟩
              simp [execOp, hn, hc, go_sem, hxc]
            apply go_val (x := .bool true) pre_kept
            · rintro ρ wr ⟨hg, hn, hc, hf, hgl⟩
              simp only [Need, fat, List.nil_append, List.cons_append, List.getD_cons_zero, List.getD_cons_succ, Fct.hold, and_true] at hn
              refine ⟨by simp [wantP, hn], ?_⟩
              simp [execOp, hn, hc, go_sem]
            intro wq hkq
            simp only [Post, List.nil_append, List.cons_append, Act.put, List.setIfInBounds_toArray, List.set_cons_zero, List.set_cons_succ]
            rename_i hK
            refine hK _ _ ?_
            clear hK
            replace H := Lib.hid (H.out.drawn hkq)
            clear hkq
            clear hxc hix
            have HN := Lib.hid (H.out.at (k' := i1))
            clear c0 c1 c2 c3 f0 f1 f2 f3
            obtain ⟨⟨c0, c1, c2, c3⟩, f0, f1, f2, f3⟩ := RO.lay H.out.1
            have HB2 := Lib.hid (byte1_any g s i1 _ HN.out.1 hs (by omega))
            have HFW2 := Lib.hid (litP_fw s i1 (by omega))
            unfold ptr at HB2
            go_wp2_with fail
            generalize World.setCell _ _ _ = w20 at HN HB2 ⊢
            clear H c0 c1 c2 c3 f0 f1 f2 f3
            have H := HN
            clear HN
            cases hl2 : litP s i1 with
            | err er i2 =>
              rw [hl2] at HB2 HFW2 HIT
              unfold B1Post at HB2
              have her : 0 < er := HFW2.out.1
              have hern : ¬ er = 0 := by omega
              have heri : ¬ (er : Int) = 0 := by omega
              have HE : Hid (R = .err er i2) := Lib.hid (by rw [HU.out, HIT.out])
              clear HU HIT hl2 HFW2
              refine HB2.out.mono ?_
              rintro e w21 ⟨rfl, ⟨a2, h1⟩, h2⟩
              replace H := Lib.hid (H.out.step h1 h2)
              clear h1 h2 HB2
              obtain ⟨⟨c0, c1, c2, c3⟩, f0, f1, f2, f3⟩ := RF.lay H.out.1
              go_wp2_with fail
              clear c0 c1 c2 c3 f0 f1 f2 f3
              have HI := Lib.hid H.out
              go_loopg [9] (0 + 1) (fun q v wr => ∃ t : Nat, v = .int .i64 ((an + t : Nat) : Int) ∧ an + t ≤ 256 ∧ 0 + 1 ≤ q + (an + t) ∧ t ≤ 0 + 1 - an ∧ StO g (RF s a2 er i2) [(w.heap.size + 1, (.cells #[.int .u64 (wdN (putN X an t) 0), .int .u64 (wdN (putN X an t) 1), .int .u64 (wdN (putN X an t) 2), .int .u64 (wdN (putN X an t) 3)] 23)), (w.heap.size, (.cells #[.int .i64 0, .int .u64 0, .int .u64 0, .int .u64 0, .int .u64 0, .slice none 0 0] 26))] w wr)
              case atStart => exact ⟨0, rfl, by omega, by omega, by omega, HI.out⟩
              case round =>
                clear HI H
                obtain ⟨t, rfl, ht, hq2, ht2, hst⟩ := hrel
                have H := Lib.hid hst
                obtain ⟨⟨x0, x1, x2, x3⟩, -⟩ := box4 (hst.blk List.mem_cons_self)
                have hsbg := hst.ne List.mem_cons_self
                clear hst
                obtain ⟨c, hc⟩ : ∃ c, an + t = c := ⟨_, rfl⟩
                rw [hc] at ht hq2 ⊢
                have HC := Lib.hid hc
                clear hc
                by_cases hle : c ≤ 0
                · obtain rfl : c = 0 := by omega
                  go_wp2_with fail
                  have HP : (putN X an t ||| (1#256 <<< 0)) = putN X an (t + 1) := by rw [putN_succ, HC.out]
                  have HW := with4 (putN X an t) 0 (by omega) wr
                  rw [HP] at HW
                  clear HP
                  refine HW.mono ?_
                  clear HW
                  rintro e w9 ⟨rfl, hk5⟩
                  clear x0 x1 x2 x3
                  have hb := (H.out.kept hk5).blk List.mem_cons_self
                  obtain ⟨⟨x0, x1, x2, x3⟩, y0, y1, y2, y3⟩ := box4 hb
                  have HN := Lib.hid ((((((H.out.kept hk5).drop.side (p := ⟨w.heap.size + 1, 0, none⟩) (Nat.le_succ _) hsbg (by simp) (.int .u64 (wdN (putN X an (t + 1)) 0))).side (p := ⟨w.heap.size + 1, 1, none⟩) (Nat.le_succ _) hsbg (by simp) (.int .u64 (wdN (putN X an (t + 1)) 1))).side (p := ⟨w.heap.size + 1, 2, none⟩) (Nat.le_succ _) hsbg (by simp) (.int .u64 (wdN (putN X an (t + 1)) 2))).side (p := ⟨w.heap.size + 1, 3, none⟩) (Nat.le_succ _) hsbg (by simp) (.int .u64 (wdN (putN X an (t + 1)) 3))).add (blk_set4 hb (.int .u64 (wdN (putN X an (t + 1)) 0)) (.int .u64 (wdN (putN X an (t + 1)) 1)) (.int .u64 (wdN (putN X an (t + 1)) 2)) (.int .u64 (wdN (putN X an (t + 1)) 3))) hsbg)
                  clear hb hk5
                  go_wp2_with fail
                  go_roundg (gk - 1)
                  case measure => omega
                  case rel => exact ⟨t + 1, by have := HC.out; congr 1; omega, by have := HC.out; omega, by have := HC.out; omega, by have := HC.out; omega, HN.out⟩
                · have hte : t = 0 + 1 - an := by have := HC.out; omega
                  subst hte
                  clear ht2
                  go_wp2_with fail
                  go_roundg 0
                  case measure => omega
                  case rel => exact ⟨m + 1, _, by go_num, .inr ⟨a2, er, i2, by omega, by omega, HE.out, H.out⟩⟩
            | ok b i2 =>
              rw [hl2] at HB2 HFW2 HIT
              obtain ⟨hji2, hile2⟩ := HFW2.out
              obtain ⟨bn, hbn⟩ : ∃ bn, b.toNat = bn := ⟨_, rfl⟩
              have hbn255 : bn ≤ 255 := by have := b.toNat_lt; omega
              unfold B1Post at HB2
              have hb1 := HB2.out
              clear HB2
              dsimp only at hb1
              rw [hbn] at hb1
              have HB2 := Lib.hid hb1
              clear hb1 HFW2
              refine HB2.out.mono ?_
              rintro e w21 ⟨rfl, h1, h2⟩
              replace H := Lib.hid (H.out.step h1 h2)
              clear h1 h2 HB2
              obtain ⟨⟨c0, c1, c2, c3⟩, f0, f1, f2, f3⟩ := RO.lay H.out.1
              by_cases hab : b < a
              · have hlow : (bn : Int) < an := by have := UInt8.lt_iff_toNat_lt.1 hab; omega
                have HE : Hid (R = .err 2 i1) := Lib.hid (by rw [HU.out, HIT.out]; simp only; rw [if_pos hab])
                clear HU HIT hl2 hab hbn han
                go_wp2_with fail
                refine (fail_any g s i2 2 i1 _ H.out.1).mono ?_
                rintro e w22 ⟨rfl, h1, h2⟩
                replace H := Lib.hid (H.out.step h1 h2)
                clear h1 h2 c0 c1 c2 c3 f0 f1 f2 f3
                go_wp2_with fail
                have HI := Lib.hid H.out
                go_loopg [9] (bn + 1) (fun q v wr => ∃ t : Nat, v = .int .i64 ((an + t : Nat) : Int) ∧ an + t ≤ 256 ∧ bn + 1 ≤ q + (an + t) ∧ t ≤ bn + 1 - an ∧ StO g (RF s i2 2 i1) [(w.heap.size + 1, (.cells #[.int .u64 (wdN (putN X an t) 0), .int .u64 (wdN (putN X an t) 1), .int .u64 (wdN (putN X an t) 2), .int .u64 (wdN (putN X an t) 3)] 23)), (w.heap.size, (.cells #[.int .i64 0, .int .u64 0, .int .u64 0, .int .u64 0, .int .u64 0, .slice none 0 0] 26))] w wr)
                case atStart => exact ⟨0, rfl, by omega, by omega, by omega, HI.out⟩
                case round =>
                  clear HI H
                  obtain ⟨t, rfl, ht, hq2, ht2, hst⟩ := hrel
                  have H := Lib.hid hst
                  obtain ⟨⟨x0, x1, x2, x3⟩, -⟩ := box4 (hst.blk List.mem_cons_self)
                  have hsbg := hst.ne List.mem_cons_self
                  clear hst
                  obtain ⟨c, hc⟩ : ∃ c, an + t = c := ⟨_, rfl⟩
                  rw [hc] at ht hq2 ⊢
                  have HC := Lib.hid hc
                  clear hc
                  by_cases hle : c ≤ bn
                  · go_wp2_with fail
                    have HP : (putN X an t ||| (1#256 <<< c)) = putN X an (t + 1) := by rw [putN_succ, HC.out]
                    have HW := with4 (putN X an t) c (by omega) wr
                    rw [HP] at HW
                    clear HP
                    refine HW.mono ?_
                    clear HW
                    rintro e w9 ⟨rfl, hk5⟩
                    clear x0 x1 x2 x3
                    have hb := (H.out.kept hk5).blk List.mem_cons_self
                    obtain ⟨⟨x0, x1, x2, x3⟩, y0, y1, y2, y3⟩ := box4 hb
                    have HN := Lib.hid ((((((H.out.kept hk5).drop.side (p := ⟨w.heap.size + 1, 0, none⟩) (Nat.le_succ _) hsbg (by simp) (.int .u64 (wdN (putN X an (t + 1)) 0))).side (p := ⟨w.heap.size + 1, 1, none⟩) (Nat.le_succ _) hsbg (by simp) (.int .u64 (wdN (putN X an (t + 1)) 1))).side (p := ⟨w.heap.size + 1, 2, none⟩) (Nat.le_succ _) hsbg (by simp) (.int .u64 (wdN (putN X an (t + 1)) 2))).side (p := ⟨w.heap.size + 1, 3, none⟩) (Nat.le_succ _) hsbg (by simp) (.int .u64 (wdN (putN X an (t + 1)) 3))).add (blk_set4 hb (.int .u64 (wdN (putN X an (t + 1)) 0)) (.int .u64 (wdN (putN X an (t + 1)) 1)) (.int .u64 (wdN (putN X an (t + 1)) 2)) (.int .u64 (wdN (putN X an (t + 1)) 3))) hsbg)
                    clear hb hk5
                    go_wp2_with fail
                    go_roundg (gk - 1)
                    case measure => omega
                    case rel => exact ⟨t + 1, by have := HC.out; congr 1; omega, by have := HC.out; omega, by have := HC.out; omega, by have := HC.out; omega, HN.out⟩
                  · have hte : t = bn + 1 - an := by have := HC.out; omega
                    subst hte
                    clear ht2
                    go_wp2_with fail
                    go_roundg 0
                    case measure => omega
                    case rel => exact ⟨m + 1, _, by go_num, .inr ⟨_, 2, i1, by omega, by omega, HE.out, H.out⟩⟩
              · have hlow : ¬ (bn : Int) < an := fun h => hab (UInt8.lt_iff_toNat_lt.2 (by omega))
                have hlown : ¬ bn < an := by omega
                have hld : decide (bn < an) = false := by simp; omega
                have hld2 : decide ((bn : Int) < an) = false := by simp; omega
                have HE : Hid (R = classL s (putN X an (bn + 1 - an)) i2) := Lib.hid (by
                  rw [HU.out, HIT.out]
                  simp only
                  rw [if_neg hab]
                  simp only
                  rw [if_pos ⟨by omega, hend⟩]
                  unfold putR
                  rw [han, hbn])
                clear HU HIT hl2 hab hbn han
                go_wp2_with fail
                clear c0 c1 c2 c3 f0 f1 f2 f3
                have HI := Lib.hid H.out
                go_loopg [9] (bn + 1) (fun q v wr => ∃ t : Nat, v = .int .i64 ((an + t : Nat) : Int) ∧ an + t ≤ 256 ∧ bn + 1 ≤ q + (an + t) ∧ t ≤ bn + 1 - an ∧ StO g (RO s i2) [(w.heap.size + 1, (.cells #[.int .u64 (wdN (putN X an t) 0), .int .u64 (wdN (putN X an t) 1), .int .u64 (wdN (putN X an t) 2), .int .u64 (wdN (putN X an t) 3)] 23)), (w.heap.size, (.cells #[.int .i64 0, .int .u64 0, .int .u64 0, .int .u64 0, .int .u64 0, .slice none 0 0] 26))] w wr)
                case atStart => exact ⟨0, rfl, by omega, by omega, by omega, HI.out⟩
                case round =>
                  clear HI H
                  obtain ⟨t, rfl, ht, hq2, ht2, hst⟩ := hrel
                  have H := Lib.hid hst
                  obtain ⟨⟨x0, x1, x2, x3⟩, -⟩ := box4 (hst.blk List.mem_cons_self)
                  have hsbg := hst.ne List.mem_cons_self
                  clear hst
                  obtain ⟨c, hc⟩ : ∃ c, an + t = c := ⟨_, rfl⟩
                  rw [hc] at ht hq2 ⊢
                  have HC := Lib.hid hc
                  clear hc
                  by_cases hle : c ≤ bn
                  · go_wp2_with fail
                    have HP : (putN X an t ||| (1#256 <<< c)) = putN X an (t + 1) := by rw [putN_succ, HC.out]
                    have HW := with4 (putN X an t) c (by omega) wr
                    rw [HP] at HW
                    clear HP
                    refine HW.mono ?_
                    clear HW
                    rintro e w9 ⟨rfl, hk5⟩
                    clear x0 x1 x2 x3
                    have hb := (H.out.kept hk5).blk List.mem_cons_self
                    obtain ⟨⟨x0, x1, x2, x3⟩, y0, y1, y2, y3⟩ := box4 hb
                    have HN := Lib.hid ((((((H.out.kept hk5).drop.side (p := ⟨w.heap.size + 1, 0, none⟩) (Nat.le_succ _) hsbg (by simp) (.int .u64 (wdN (putN X an (t + 1)) 0))).side (p := ⟨w.heap.size + 1, 1, none⟩) (Nat.le_succ _) hsbg (by simp) (.int .u64 (wdN (putN X an (t + 1)) 1))).side (p := ⟨w.heap.size + 1, 2, none⟩) (Nat.le_succ _) hsbg (by simp) (.int .u64 (wdN (putN X an (t + 1)) 2))).side (p := ⟨w.heap.size + 1, 3, none⟩) (Nat.le_succ _) hsbg (by simp) (.int .u64 (wdN (putN X an (t + 1)) 3))).add (blk_set4 hb (.int .u64 (wdN (putN X an (t + 1)) 0)) (.int .u64 (wdN (putN X an (t + 1)) 1)) (.int .u64 (wdN (putN X an (t + 1)) 2)) (.int .u64 (wdN (putN X an (t + 1)) 3))) hsbg)
                    clear hb hk5
                    go_wp2_with fail
                    go_roundg (gk - 1)
                    case measure => omega
                    case rel => exact ⟨t + 1, by have := HC.out; congr 1; omega, by have := HC.out; omega, by have := HC.out; omega, by have := HC.out; omega, HN.out⟩
                  · have hte : t = bn + 1 - an := by have := HC.out; omega
                    subst hte
                    clear ht2
                    go_wp2_with fail
                    go_roundg (G - 1)
                    case measure => omega
                    case rel => exact ⟨m + 1, _, by go_num, .inl ⟨i2, by omega, by omega, by omega, by rw [if_neg (fun h => by omega)]; exact HE.out, H.out⟩⟩


    · have H := Lib.hid hst
      have HE := Lib.hid hR
      have heri : ¬ (er : Int) = 0 := by omega
      clear hst hR
      obtain ⟨⟨c0, c1, c2, c3⟩, f0, f1, f2, f3⟩ := RF.lay H.out.1
      obtain ⟨⟨d0, d1, d2, d3, d4, d5⟩, g0, g1, g2, g3, g4, g5⟩ := box6 (H.out.blk (List.mem_cons_of_mem _ List.mem_cons_self))
      obtain ⟨⟨x0, x1, x2, x3⟩, -⟩ := box4 (H.out.blk List.mem_cons_self)
      have HF := Lib.hid (ret_reO (H.out.atF (a' := wrap64 (a + 1))).drop (Nat.le_refl _) (.int .i64 1) (.int .u64 (wdN X 0)) (.int .u64 (wdN X 1)) (.int .u64 (wdN X 2)) (.int .u64 (wdN X 3)) (.slice none 0 0))
      go_wp2_with fail
      refine bodyPost_ret (v := re6 1 X (.slice none 0 0)) ?_ rfl ?_
      · simp [results, Try.results59, go_sem, re6_form, d0, d1, d2, d3, d4, d5]
      · rw [HE.out]
        exact ⟨_, rfl, six_re _ _ _ _ _, HF.out.2.2, _, HF.out.1⟩
end Go.Proofs.Ytdbffbdpofodmaa
