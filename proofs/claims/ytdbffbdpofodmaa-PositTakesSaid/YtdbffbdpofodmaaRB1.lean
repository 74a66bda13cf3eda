/-
  What the document's own byte1 and dot do. Conditions: the text is no longer than 200 bytes, the reader has not failed.
-/
import Derived.Test.YtdbffbdpofodmaaRSm
import Derived.Deep.LoopGhost
set_option linter.unusedSimpArgs false
namespace Go.Proofs.Ytdbffbdpofodmaa
open Go Go.RowKit Kit
def dotN : Nat → BitVec 256
  | 0 => 0#256
  | k + 1 => if k = 10 then dotN k else dotN k ||| (1#256 <<< k)
theorem dotN_all : dotN 256 = dot := by decide +kernel
theorem with4 (x : BitVec 256) (c : Nat) (hc : c ≤ 255) (w : World) : Calls Try.prog 61 #[.agg #[.int .u64 (wdN x 0), .int .u64 (wdN x 1), .int .u64 (wdN x 2), .int .u64 (wdN x 3)], .int .u8 c] w fun e w' => e = .returned (.agg #[.int .u64 (wdN (x ||| (1#256 <<< c)) 0), .int .u64 (wdN (x ||| (1#256 <<< c)) 1), .int .u64 (wdN (x ||| (1#256 <<< c)) 2), .int .u64 (wdN (x ||| (1#256 <<< c)) 3)]) ∧ Kept w w' := With_any x c hc w
set_option maxRecDepth 100000 in
set_option maxHeartbeats 4000000 in
theorem rdot_any (w : World) : Calls Try.prog 57 #[] w fun e w' => e = .returned (set4 dot) ∧ Kept w w' := by
  have HA := Lib.hid (alloc2 w (.cells #[.int .u64 0, .int .u64 0, .int .u64 0, .int .u64 0] 23) (.cells #[.int .u64 0, .int .u64 0, .int .u64 0, .int .u64 0] 23))
  go_enter Try.func57, Try.ntmps57
  go_wp2
  go_loopw [2] (fun i wr => ∃ k : Nat, i = .int .i64 k ∧ k ≤ 256 ∧ wr.heap[w.heap.size]? = some (.cells #[.int .u64 0, .int .u64 0, .int .u64 0, .int .u64 0] 23 (0, 0)) ∧ wr.heap[w.heap.size + 1]? = some (.cells #[wd (dotN k) 0, wd (dotN k) 1, wd (dotN k) 2, wd (dotN k) 3] 23 (0, 0)) ∧ Kept w wr) (fun i _ => 256 - (intOf i).toNat)
  case atStart => exact ⟨0, rfl, by omega, HA.out.1, by simp only [dotN, wd_zero]; exact HA.out.2.1, HA.out.2.2⟩
  case round =>
    clear HA
    obtain ⟨k, rfl, hk, h0, h1, hkw⟩ := hrel
    have H := Lib.hid (And.intro h0 (And.intro h1 hkw))
    by_cases hlt : k ≤ 255
    · by_cases h10 : k = 10
      · have e : dotN (k + 1) = dotN k := by subst h10; rfl
        have HE := Lib.hid e
        have hki : (k : Int) = 10 := by omega
        clear h0 h1 hkw e h10
        go_wp2_with fail
        go_roundw
        case rel => exact ⟨k + 1, by go_num, by omega, H.out.1, by rw [HE.out]; exact H.out.2.1, H.out.2.2⟩
        case measure => simp [intOf]; omega
      · have e : dotN (k + 1) = dotN k ||| (1#256 <<< k) := by
          show (if k = 10 then _ else _) = _
          rw [if_neg h10]
        have HE := Lib.hid e
        have hki : ¬ (k : Int) = 10 := by omega
        obtain ⟨⟨c0, c1, c2, c3⟩, -⟩ := box4 h1
        simp only [wd_eq] at c0 c1 c2 c3
        clear h0 h1 hkw e h10
        go_wp2_with fail
        refine (with4 (dotN k) k hlt wr).mono ?_
        rw [← HE.out]
        rintro e w5 ⟨rfl, hk5⟩
        clear c0 c1 c2 c3
        have hb := hk5.blk H.out.2.1
        obtain ⟨⟨c0, c1, c2, c3⟩, f0, f1, f2, f3⟩ := box4 hb
        simp only [wd_eq] at c0 c1 c2 c3
        have hb' := blk_set4 hb (.int .u64 (wdN (dotN (k + 1)) 0)) (.int .u64 (wdN (dotN (k + 1)) 1)) (.int .u64 (wdN (dotN (k + 1)) 2)) (.int .u64 (wdN (dotN (k + 1)) 3))
        have ha := hk5.blk H.out.1
        have hkk := H.out.2.2.trans hk5
        have HF := Lib.hid (And.intro (blk_aside (blk_aside (blk_aside (blk_aside ha (p := ⟨w.heap.size + 1, 0, none⟩) (by simp) (.int .u64 (wdN (dotN (k + 1)) 0))) (p := ⟨w.heap.size + 1, 1, none⟩) (by simp) (.int .u64 (wdN (dotN (k + 1)) 1))) (p := ⟨w.heap.size + 1, 2, none⟩) (by simp) (.int .u64 (wdN (dotN (k + 1)) 2))) (p := ⟨w.heap.size + 1, 3, none⟩) (by simp) (.int .u64 (wdN (dotN (k + 1)) 3))) (And.intro hb' ((((hkk.setCell (p := ⟨w.heap.size + 1, 0, none⟩) (Nat.le_succ _) (.int .u64 (wdN (dotN (k + 1)) 0))).setCell (p := ⟨w.heap.size + 1, 1, none⟩) (Nat.le_succ _) (.int .u64 (wdN (dotN (k + 1)) 1))).setCell (p := ⟨w.heap.size + 1, 2, none⟩) (Nat.le_succ _) (.int .u64 (wdN (dotN (k + 1)) 2))).setCell (p := ⟨w.heap.size + 1, 3, none⟩) (Nat.le_succ _) (.int .u64 (wdN (dotN (k + 1)) 3)))))
        clear hb hb' ha hkk hk5 H
        go_wp2_with fail
        go_roundw
        case rel => exact ⟨k + 1, by go_num, by omega, HF.out⟩
        case measure => simp [intOf]; omega
    · have hk6 : k = 256 := by omega
      subst hk6
      rw [dotN_all] at h1
      obtain ⟨⟨c0, c1, c2, c3⟩, -⟩ := box4 h1
      obtain ⟨⟨d0, d1, d2, d3⟩, f0, f1, f2, f3⟩ := box4 h0
      simp only [wd_eq] at c0 c1 c2 c3
      clear h0 h1 hkw
      go_wp2_with fail
      refine bodyPost_ret (v := set4 dot) ?_ rfl ⟨rfl, ?_⟩
      · simp [results, Try.results57, go_sem, set4, wd_eq, d0, d1, d2, d3]
      · exact (((H.out.2.2.setCell (Nat.le_refl _) _).setCell (Nat.le_refl _) _).setCell (Nat.le_refl _) _).setCell (Nat.le_refl _) _
def B1Post (g : Nat) (s : ByteArray) (r : Res UInt8) (w : World) (e : Ending) (w' : World) : Prop :=
  match r with
  | .ok c j => e = .returned (.int .u8 c.toNat) ∧ w'.heap[g]? = some (RO s j) ∧ Gr g w w'
  | .err er j => e = .returned (.int .u8 0) ∧ (∃ a, w'.heap[g]? = some (RF s a er j)) ∧ Gr g w w'
set_option maxHeartbeats 2000000 in
theorem byte1_true_end (g : Nat) (s : ByteArray) (k : Nat) (w : World) (h : w.heap[g]? = some (RO s k)) (hs : s.size ≤ 200) (hk : k ≤ s.size) (hb : (byteAt s k == some 92) = true) (j : Nat) (hj : (k : Int) + 1 = j) (hlt : s.size ≤ j) : Calls Try.prog 62 #[ptr g] w (B1Post g s (.err 2 j) w) := by
  have HS := Lib.hid (is_any g s k 92 w h)
  rw [hb] at HS
  have H := Lib.hid (StO.start h)
  clear h hb
  unfold ptr B1Post at *
  go_enter Try.func62, Try.ntmps62
  go_wp2_with fail
  refine HS.out.mono ?_
  rintro e w1 ⟨rfl, hk1⟩
  replace H := Lib.hid (H.out.kept hk1)
  clear hk1 HS
  obtain ⟨⟨c0, c1, c2, c3⟩, f0, f1, f2, f3⟩ := RO.lay H.out.1
  replace H := Lib.hid (H.out.at (k' := j))
  go_wp2_with fail
  generalize w1.setCell _ _ = w2 at H ⊢
  clear c0 c1 c2 c3 f0 f1 f2 f3
  refine (over_any g s j _ H.out.1).mono ?_
  rintro e w3 ⟨rfl, hk1⟩
  rw [show decide (s.size ≤ j) = true from by simp; omega]
  replace H := Lib.hid (H.out.kept hk1)
  clear hk1
  obtain ⟨⟨c0, c1, c2, c3⟩, f0, f1, f2, f3⟩ := RO.lay H.out.1
  go_wp2_with fail
  refine (fail_any g s j 2 j _ H.out.1).mono ?_
  rintro e w4 ⟨rfl, h1, h2⟩
  replace H := Lib.hid (H.out.step h1 h2)
  clear h1 h2 c0 c1 c2 c3 f0 f1 f2 f3
  go_wp2_with fail
  go_ret
  exact ⟨rfl, ⟨_, H.out.1⟩, H.out.2.2⟩
set_option maxHeartbeats 2000000 in
theorem byte1_true_in (g : Nat) (s : ByteArray) (k : Nat) (w : World) (h : w.heap[g]? = some (RO s k)) (hs : s.size ≤ 200) (_hk : k ≤ s.size) (hb : (byteAt s k == some 92) = true) (j : Nat) (hj : (k : Int) + 1 = j) (hlt : j < s.size) (i : Nat) (hii : ((j : Nat) : Int) + 1 = i) : Calls Try.prog 62 #[ptr g] w (B1Post g s (.ok s[j] i) w) := by
  have HS := Lib.hid (is_any g s k 92 w h)
  rw [hb] at HS
  have H := Lib.hid (StO.start h)
  clear h hb
  unfold ptr B1Post at *
  go_enter Try.func62, Try.ntmps62
  go_wp2_with fail
  refine HS.out.mono ?_
  rintro e w1 ⟨rfl, hk1⟩
  replace H := Lib.hid (H.out.kept hk1)
  clear hk1 HS
  obtain ⟨⟨c0, c1, c2, c3⟩, f0, f1, f2, f3⟩ := RO.lay H.out.1
  replace H := Lib.hid (H.out.at (k' := j))
  go_wp2_with fail
  generalize w1.setCell _ _ = w2 at H ⊢
  clear c0 c1 c2 c3 f0 f1 f2 f3
  refine (over_any g s j _ H.out.1).mono ?_
  rintro e w3 ⟨rfl, hk1⟩
  rw [show decide (s.size ≤ j) = false from by simp; omega]
  replace H := Lib.hid (H.out.kept hk1)
  clear hk1
  obtain ⟨⟨c0, c1, c2, c3⟩, f0, f1, f2, f3⟩ := RO.lay H.out.1
  obtain ⟨x, hix⟩ : ∃ x : Nat, s[j].toNat = x := ⟨_, rfl⟩
  have hlt2 : (j : Int) < s.size := by omega
  have hk0 : (0 : Int) ≤ j := by omega
  have hib : i ≤ 200 := by omega
  have hsub : (i : Int) - 1 = (j : Int) := by omega
  have hwr : IntKind.i64.wrap (j : Int) = j := IntWalk.i64_in _ (by omega)
  replace H := Lib.hid (H.out.at (k' := i))
  go_wp2_with fail
  generalize w3.setCell _ _ = w4 at H ⊢
  clear c0 c1 c2 c3 f0 f1 f2 f3
  obtain ⟨⟨c0, c1, c2, c3⟩, f0, f1, f2, f3⟩ := RO.lay H.out.1
  refine wp_region_go Kept pre_kept [([(0, none)], none), ([(27, some 0)], none), ([(28, some 1)], none), ([(29, some 2)], none), ([(0, none)], none), ([(31, some 4)], none), ([(32, some 5)], none), ([(33, some 6)], none), ([(34, some 7)], none), ([(30, some 3), (35, some 8)], none), ([(36, some 9)], none)] (by kernel_rfl) 37 rfl (by kernel_rfl) (by kernel_rfl) ?_
  apply go_val pre_kept
  · rintro ρ wr ⟨hg, hn, hc, hf, hgl⟩
    simp only [Need, fat, List.nil_append, List.cons_append, List.getD_cons_zero, List.getD_cons_succ, Fct.hold, and_true] at hn
    refine ⟨by simp [wantP, hn], ?_⟩
    simp [execOp, hn, hc, go_sem]
    exact rfl
  apply go_val pre_kept
  · rintro ρ wr ⟨hg, hn, hc, hf, hgl⟩
    simp only [Need, fat, List.nil_append, List.cons_append, List.getD_cons_zero, List.getD_cons_succ, Fct.hold, and_true] at hn
    refine ⟨by simp [wantP, hn], ?_⟩
    simp [execOp, hn, hc, go_sem]
    exact rfl
  apply go_val pre_kept
  · rintro ρ wr ⟨hg, hn, hc, hf, hgl⟩
    simp only [Need, fat, List.nil_append, List.cons_append, List.getD_cons_zero, List.getD_cons_succ, Fct.hold, and_true] at hn
    refine ⟨by simp [wantP, hn], ?_⟩
    simp [execOp, hn, hc, go_sem]
    exact rfl
  apply go_val pre_kept
  · rintro ρ wr ⟨hg, hn, hc, hf, hgl⟩
    simp only [Need, fat, List.nil_append, List.cons_append, List.getD_cons_zero, List.getD_cons_succ, Fct.hold, and_true] at hn
    have hl := And.intro (hg.cell c0) (hg.cell c1)
    refine ⟨by simp [wantP, hn], ?_⟩
    simp [execOp, hn, hc, hl, go_sem]
    exact rfl
  apply go_val pre_kept
  · rintro ρ wr ⟨hg, hn, hc, hf, hgl⟩
    simp only [Need, fat, List.nil_append, List.cons_append, List.getD_cons_zero, List.getD_cons_succ, Fct.hold, and_true] at hn
    refine ⟨by simp [wantP, hn], ?_⟩
    simp [execOp, hn, hc, go_sem]
    exact rfl
  apply go_val pre_kept
  · rintro ρ wr ⟨hg, hn, hc, hf, hgl⟩
    simp only [Need, fat, List.nil_append, List.cons_append, List.getD_cons_zero, List.getD_cons_succ, Fct.hold, and_true] at hn
    refine ⟨by simp [wantP, hn], ?_⟩
    simp [execOp, hn, hc, go_sem]
    exact rfl
  apply go_val pre_kept
  · rintro ρ wr ⟨hg, hn, hc, hf, hgl⟩
    simp only [Need, fat, List.nil_append, List.cons_append, List.getD_cons_zero, List.getD_cons_succ, Fct.hold, and_true] at hn
    refine ⟨by simp [wantP, hn], ?_⟩
    simp [execOp, hn, hc, go_sem]
    exact rfl
  apply go_val pre_kept
  · rintro ρ wr ⟨hg, hn, hc, hf, hgl⟩
    simp only [Need, fat, List.nil_append, List.cons_append, List.getD_cons_zero, List.getD_cons_succ, Fct.hold, and_true] at hn
    have hl := And.intro (hg.cell c0) (hg.cell c1)
    refine ⟨by simp [wantP, hn], ?_⟩
    simp [execOp, hn, hc, hl, go_sem]
    exact rfl
  apply go_val (x := .int .i64 (j : Int)) pre_kept
  · rintro ρ wr ⟨hg, hn, hc, hf, hgl⟩
    simp only [Need, fat, List.nil_append, List.cons_append, List.getD_cons_zero, List.getD_cons_succ, Fct.hold, and_true] at hn
    refine ⟨by simp [wantP, hn], ?_⟩
    simp [execOp, hn, hc, go_sem, hsub, hwr]
  apply go_val (x := .int .u8 (x : Int)) pre_kept
  · rintro ρ wr ⟨hg, hn, hc, hf, hgl⟩
    simp only [Need, fat, List.nil_append, List.cons_append, List.getD_cons_zero, List.getD_cons_succ, Fct.hold, and_true] at hn
    refine ⟨by simp [wantP, hn], ?_⟩
    simp [execOp, hn, hc, go_sem, hix, hlt2, hk0]
  apply go_val pre_kept
  · rintro ρ wr ⟨hg, hn, hc, hf, hgl⟩
    simp only [Need, fat, List.nil_append, List.cons_append, List.getD_cons_zero, List.getD_cons_succ, Fct.hold, and_true] at hn
    refine ⟨by simp [wantP, hn], ?_⟩
    simp [execOp, hn, hc, go_sem]
    exact rfl
  intro w5 hk5
  simp only [Post, List.nil_append, List.cons_append, Act.put, List.setIfInBounds_toArray, List.set_cons_zero, List.set_cons_succ]
  rename_i hK
  refine hK _ _ ?_
  clear hK
  replace H := Lib.hid (H.out.drawn hk5)
  clear hk5 c0 c1 c2 c3 f0 f1 f2 f3
  go_wp2_with fail
  go_ret
  exact ⟨by rw [hix]; rfl, H.out.1, H.out.2.2⟩
set_option maxHeartbeats 2000000 in
theorem byte1_false_end (g : Nat) (s : ByteArray) (k : Nat) (w : World) (h : w.heap[g]? = some (RO s k)) (_hs : s.size ≤ 200) (_hk : k ≤ s.size) (hb : (byteAt s k == some 92) = false) (j : Nat) (hj : k = j) (hlt : s.size ≤ j) : Calls Try.prog 62 #[ptr g] w (B1Post g s (.err 2 j) w) := by
  have HS := Lib.hid (is_any g s k 92 w h)
  rw [hb] at HS
  have H := Lib.hid (StO.start h)
  clear h hb
  subst hj
  unfold ptr B1Post at *
  go_enter Try.func62, Try.ntmps62
  go_wp2_with fail
  refine HS.out.mono ?_
  rintro e w1 ⟨rfl, hk1⟩
  replace H := Lib.hid (H.out.kept hk1)
  clear hk1 HS
  obtain ⟨⟨c0, c1, c2, c3⟩, f0, f1, f2, f3⟩ := RO.lay H.out.1
  clear c0 c1 c2 c3 f0 f1 f2 f3
  go_wp2_with fail
  refine (over_any g s k _ H.out.1).mono ?_
  rintro e w3 ⟨rfl, hk1⟩
  rw [show decide (s.size ≤ k) = true from by simp; omega]
  replace H := Lib.hid (H.out.kept hk1)
  clear hk1
  obtain ⟨⟨c0, c1, c2, c3⟩, f0, f1, f2, f3⟩ := RO.lay H.out.1
  go_wp2_with fail
  refine (fail_any g s k 2 k _ H.out.1).mono ?_
  rintro e w4 ⟨rfl, h1, h2⟩
  replace H := Lib.hid (H.out.step h1 h2)
  clear h1 h2 c0 c1 c2 c3 f0 f1 f2 f3
  go_wp2_with fail
  go_ret
  exact ⟨rfl, ⟨_, H.out.1⟩, H.out.2.2⟩
set_option maxHeartbeats 2000000 in
theorem byte1_false_in (g : Nat) (s : ByteArray) (k : Nat) (w : World) (h : w.heap[g]? = some (RO s k)) (hs : s.size ≤ 200) (_hk : k ≤ s.size) (hb : (byteAt s k == some 92) = false) (j : Nat) (hj : k = j) (hlt : j < s.size) (i : Nat) (hii : ((j : Nat) : Int) + 1 = i) : Calls Try.prog 62 #[ptr g] w (B1Post g s (.ok s[j] i) w) := by
  have HS := Lib.hid (is_any g s k 92 w h)
  rw [hb] at HS
  have H := Lib.hid (StO.start h)
  clear h hb
  subst hj
  unfold ptr B1Post at *
  go_enter Try.func62, Try.ntmps62
  go_wp2_with fail
  refine HS.out.mono ?_
  rintro e w1 ⟨rfl, hk1⟩
  replace H := Lib.hid (H.out.kept hk1)
  clear hk1 HS
  obtain ⟨⟨c0, c1, c2, c3⟩, f0, f1, f2, f3⟩ := RO.lay H.out.1
  clear c0 c1 c2 c3 f0 f1 f2 f3
  go_wp2_with fail
  refine (over_any g s k _ H.out.1).mono ?_
  rintro e w3 ⟨rfl, hk1⟩
  rw [show decide (s.size ≤ k) = false from by simp; omega]
  replace H := Lib.hid (H.out.kept hk1)
  clear hk1
  obtain ⟨⟨c0, c1, c2, c3⟩, f0, f1, f2, f3⟩ := RO.lay H.out.1
  obtain ⟨x, hix⟩ : ∃ x : Nat, s[k].toNat = x := ⟨_, rfl⟩
  have hlt2 : (k : Int) < s.size := by omega
  have hk0 : (0 : Int) ≤ k := by omega
  have hib : i ≤ 200 := by omega
  have hsub : (i : Int) - 1 = (k : Int) := by omega
  have hwr : IntKind.i64.wrap (k : Int) = k := IntWalk.i64_in _ (by omega)
  replace H := Lib.hid (H.out.at (k' := i))
  go_wp2_with fail
  generalize w3.setCell _ _ = w4 at H ⊢
  clear c0 c1 c2 c3 f0 f1 f2 f3
  obtain ⟨⟨c0, c1, c2, c3⟩, f0, f1, f2, f3⟩ := RO.lay H.out.1
  refine wp_region_go Kept pre_kept [([(0, none)], none), ([(27, some 0)], none), ([(28, some 1)], none), ([(29, some 2)], none), ([(0, none)], none), ([(31, some 4)], none), ([(32, some 5)], none), ([(33, some 6)], none), ([(34, some 7)], none), ([(30, some 3), (35, some 8)], none), ([(36, some 9)], none)] (by kernel_rfl) 37 rfl (by kernel_rfl) (by kernel_rfl) ?_
  apply go_val pre_kept
  · rintro ρ wr ⟨hg, hn, hc, hf, hgl⟩
    simp only [Need, fat, List.nil_append, List.cons_append, List.getD_cons_zero, List.getD_cons_succ, Fct.hold, and_true] at hn
    refine ⟨by simp [wantP, hn], ?_⟩
    simp [execOp, hn, hc, go_sem]
    exact rfl
  apply go_val pre_kept
  · rintro ρ wr ⟨hg, hn, hc, hf, hgl⟩
    simp only [Need, fat, List.nil_append, List.cons_append, List.getD_cons_zero, List.getD_cons_succ, Fct.hold, and_true] at hn
    refine ⟨by simp [wantP, hn], ?_⟩
    simp [execOp, hn, hc, go_sem]
    exact rfl
  apply go_val pre_kept
  · rintro ρ wr ⟨hg, hn, hc, hf, hgl⟩
    simp only [Need, fat, List.nil_append, List.cons_append, List.getD_cons_zero, List.getD_cons_succ, Fct.hold, and_true] at hn
    refine ⟨by simp [wantP, hn], ?_⟩
    simp [execOp, hn, hc, go_sem]
    exact rfl
  apply go_val pre_kept
  · rintro ρ wr ⟨hg, hn, hc, hf, hgl⟩
    simp only [Need, fat, List.nil_append, List.cons_append, List.getD_cons_zero, List.getD_cons_succ, Fct.hold, and_true] at hn
    have hl := And.intro (hg.cell c0) (hg.cell c1)
    refine ⟨by simp [wantP, hn], ?_⟩
    simp [execOp, hn, hc, hl, go_sem]
    exact rfl
  apply go_val pre_kept
  · rintro ρ wr ⟨hg, hn, hc, hf, hgl⟩
    simp only [Need, fat, List.nil_append, List.cons_append, List.getD_cons_zero, List.getD_cons_succ, Fct.hold, and_true] at hn
    refine ⟨by simp [wantP, hn], ?_⟩
    simp [execOp, hn, hc, go_sem]
    exact rfl
  apply go_val pre_kept
  · rintro ρ wr ⟨hg, hn, hc, hf, hgl⟩
    simp only [Need, fat, List.nil_append, List.cons_append, List.getD_cons_zero, List.getD_cons_succ, Fct.hold, and_true] at hn
    refine ⟨by simp [wantP, hn], ?_⟩
    simp [execOp, hn, hc, go_sem]
    exact rfl
  apply go_val pre_kept
  · rintro ρ wr ⟨hg, hn, hc, hf, hgl⟩
    simp only [Need, fat, List.nil_append, List.cons_append, List.getD_cons_zero, List.getD_cons_succ, Fct.hold, and_true] at hn
    refine ⟨by simp [wantP, hn], ?_⟩
    simp [execOp, hn, hc, go_sem]
    exact rfl
  apply go_val pre_kept
  · rintro ρ wr ⟨hg, hn, hc, hf, hgl⟩
    simp only [Need, fat, List.nil_append, List.cons_append, List.getD_cons_zero, List.getD_cons_succ, Fct.hold, and_true] at hn
    have hl := And.intro (hg.cell c0) (hg.cell c1)
    refine ⟨by simp [wantP, hn], ?_⟩
    simp [execOp, hn, hc, hl, go_sem]
    exact rfl
  apply go_val (x := .int .i64 (k : Int)) pre_kept
  · rintro ρ wr ⟨hg, hn, hc, hf, hgl⟩
    simp only [Need, fat, List.nil_append, List.cons_append, List.getD_cons_zero, List.getD_cons_succ, Fct.hold, and_true] at hn
    refine ⟨by simp [wantP, hn], ?_⟩
    simp [execOp, hn, hc, go_sem, hsub, hwr]
  apply go_val (x := .int .u8 (x : Int)) pre_kept
  · rintro ρ wr ⟨hg, hn, hc, hf, hgl⟩
    simp only [Need, fat, List.nil_append, List.cons_append, List.getD_cons_zero, List.getD_cons_succ, Fct.hold, and_true] at hn
    refine ⟨by simp [wantP, hn], ?_⟩
    simp [execOp, hn, hc, go_sem, hix, hlt2, hk0]
  apply go_val pre_kept
  · rintro ρ wr ⟨hg, hn, hc, hf, hgl⟩
    simp only [Need, fat, List.nil_append, List.cons_append, List.getD_cons_zero, List.getD_cons_succ, Fct.hold, and_true] at hn
    refine ⟨by simp [wantP, hn], ?_⟩
    simp [execOp, hn, hc, go_sem]
    exact rfl
  intro w5 hk5
  simp only [Post, List.nil_append, List.cons_append, Act.put, List.setIfInBounds_toArray, List.set_cons_zero, List.set_cons_succ]
  rename_i hK
  refine hK _ _ ?_
  clear hK
  replace H := Lib.hid (H.out.drawn hk5)
  clear hk5 c0 c1 c2 c3 f0 f1 f2 f3
  go_wp2_with fail
  go_ret
  exact ⟨by rw [hix]; rfl, H.out.1, H.out.2.2⟩
theorem byte1_any (g : Nat) (s : ByteArray) (k : Nat) (w : World) (h : w.heap[g]? = some (RO s k)) (hs : s.size ≤ 200) (hk : k ≤ s.size) : Calls Try.prog 62 #[ptr g] w (B1Post g s (litP s k) w) := by
  unfold litP litB
  by_cases hb : byteAt s k = some 92
  · rw [if_pos hb]
    by_cases hlt : k + 1 < s.size
    · rw [byteAt_some hlt]
      exact byte1_true_in g s k w h hs hk (by simp [hb]) (k + 1) (by omega) hlt (k + 1 + 1) (by omega)
    · rw [byteAt_none hlt]
      exact byte1_true_end g s k w h hs hk (by simp [hb]) (k + 1) (by omega) (by omega)
  · rw [if_neg hb]
    by_cases hlt : k < s.size
    · have e := byteAt_some hlt
      rw [e]
      exact byte1_false_in g s k w h hs hk (by simp [hb]) k rfl hlt (k + 1) (by omega)
    · rw [byteAt_none hlt]
      exact byte1_false_end g s k w h hs hk (by simp [hb]) k rfl (by omega)
end Go.Proofs.Ytdbffbdpofodmaa
