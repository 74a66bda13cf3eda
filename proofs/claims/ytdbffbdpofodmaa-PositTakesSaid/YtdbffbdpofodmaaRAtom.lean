/-
  What the document's own atom reads. Conditions: the text is no longer than 200 bytes, the reader has not failed and stands at a byte.
-/
import Derived.Test.YtdbffbdpofodmaaRClsT
import Derived.Test.YtdbffbdpofodmaaRClsF
set_option linter.unusedSimpArgs false
namespace Go.Proofs.Ytdbffbdpofodmaa
open Go Go.RowKit Kit
theorem Kit.StO.atZ {g k k' : Nat} {s : ByteArray} {w : World} (h : StO g (RO s k) [] w w) (o : Obj) : StO g (RO s k') [(w.heap.size, o)] w ((w.setCell ⟨g, 1, none⟩ (.int .i64 k')).alloc o) := by
  have h2 := (h.at (k' := k')).alloc o
  rw [show (w.setCell ⟨g, 1, none⟩ (.int .i64 k')).heap.size = w.heap.size from by simp [World.setCell]] at h2
  exact h2
theorem six_zre : Six zre := ⟨0, 0#256, none, 0, 0, by unfold zre re6; simp only [wd_zero]; rfl⟩
set_option maxHeartbeats 2000000 in
theorem ratom_deep (g : Nat) (s : ByteArray) (k : Nat) (d : Int) (w : World) (h : w.heap[g]? = some (RO s k)) (_hs : s.size ≤ 200) (hk : k < s.size) (hix : s[k].toNat = 40) (hd : 20 ≤ d) : Calls Try.prog 56 #[ptr g, .int .i64 d] w (RefPost g s (.err 4 k) w) := by
  unfold RefPost
  have hlt2 : (k : Int) < s.size := by omega
  have hk0 : (0 : Int) ≤ k := by omega
  have hgl := blk_lt h
  have H := Lib.hid ((StO.start h).alloc (.cells #[.int .i64 0, .int .u64 0, .int .u64 0, .int .u64 0, .int .u64 0, .slice none 0 0] 26))
  obtain ⟨⟨c0, c1, c2, c3⟩, f0, f1, f2, f3⟩ := RO.lay h
  clear h
  unfold ptr at *
  go_enter Try.func56, Try.ntmps56
  go_wp2_with fail
  refine (fail_any g s k 4 k _ H.out.1).mono ?_
  rintro e w3 ⟨rfl, h1, h2⟩
  replace H := Lib.hid (H.out.step h1 h2)
  clear h1 h2
  clear c0 c1 c2 c3 f0 f1 f2 f3
  obtain ⟨⟨d0, d1, d2, d3, d4, d5⟩, g0, g1, g2, g3, g4, g5⟩ := box6 (H.out.blk (r := w.heap.size) List.mem_cons_self)
  have HF := Lib.hid (ret_reO H.out (Nat.le_refl _) (.int .i64 0) (.int .u64 0) (.int .u64 0) (.int .u64 0) (.int .u64 0) (.slice none 0 0))
  go_wp2_with fail
  refine bodyPost_ret (v := zre) ?_ rfl ⟨_, rfl, six_zre, HF.out.2.2, _, HF.out.1⟩
  simp [results, Try.results56, go_sem, zre, d0, d1, d2, d3, d4, d5]
set_option maxHeartbeats 2000000 in
theorem ratom_grp_err (g : Nat) (s : ByteArray) (k : Nat) (d : Int) (w : World) (h : w.heap[g]? = some (RO s k)) (hs : s.size ≤ 200) (hk : k < s.size) (hix : s[k].toNat = 40) (d1 : Int) (hd0 : 0 ≤ d) (hd : d < 20) (hd1 : d + 1 = d1) (k1 : Nat) (hki : (k : Int) + 1 = k1) (er j : Nat) (her : 0 < er) (HC : ∀ w, w.heap[g]? = some (RO s k1) → Calls Try.prog 26 #[ptr g, .int .i64 d1] w (RefPost g s (.err er j) w)) : Calls Try.prog 56 #[ptr g, .int .i64 d] w (RefPost g s (.err er j) w) := by
  have hd' : ¬ 20 ≤ d := by omega
  have hk1b : k1 ≤ 200 := by omega
  unfold RefPost at *
  have HQ := Lib.hid HC
  clear HC
  have hlt2 : (k : Int) < s.size := by omega
  have hk0 : (0 : Int) ≤ k := by omega
  have hgl := blk_lt h
  have H := Lib.hid ((StO.start h).atZ (k' := k1) (.cells #[.int .i64 0, .int .u64 0, .int .u64 0, .int .u64 0, .int .u64 0, .slice none 0 0] 26))
  obtain ⟨⟨c0, c1, c2, c3⟩, f0, f1, f2, f3⟩ := RO.lay h
  clear h
  unfold ptr at *
  go_enter Try.func56, Try.ntmps56
  go_wp2_with fail
  generalize (w.setCell _ _).alloc _ = w2 at H ⊢
  clear c0 c1 c2 c3 f0 f1 f2 f3
  refine (HQ.out _ H.out.1).mono ?_
  rintro e w3 ⟨u, rfl, hu, h3, h2⟩
  clear HQ
  obtain ⟨a, h2⟩ := h2
  obtain ⟨o1, s1, A1, n1, p1, rfl⟩ := hu
  have hn3 := blk_lt h2
  have hn4 := Gr.size h3
  have hn5 := blk_lt (H.out.blk (r := w.heap.size) List.mem_cons_self)
  replace H := Lib.hid (H.out.step h2 h3)
  clear h2 h3
  simp only [re6_form, wd_eq]
  have her2 : ¬ (er : Int) = 0 := by omega
  have her3 : ((er : Int) == 0) = false := by simpa using her2
  have hn6 : w.heap.size < w3.heap.size := by omega
  obtain ⟨⟨c0, c1, c2, c3⟩, f0, f1, f2, f3⟩ := RF.lay H.out.1
  obtain ⟨⟨d0, d1, d2, d3, d4, d5⟩, g0, g1, g2, g3, g4, g5⟩ := box6 (H.out.blk (r := w.heap.size) List.mem_cons_self)
  have HF := Lib.hid (ret_reO (H.out.atF (a' := wrap64 (a + 1))) (Nat.le_refl _) (.int .i64 o1) (.int .u64 (wdN s1 0)) (.int .u64 (wdN s1 1)) (.int .u64 (wdN s1 2)) (.int .u64 (wdN s1 3)) (.slice A1 n1 p1))
  go_wp2_with fail
  refine bodyPost_ret (v := re6 o1 s1 (.slice A1 n1 p1)) ?_ rfl ⟨_, rfl, six_re _ _ _ _ _, (HF.out.kept ((Kept.refl _).alloc _)).2.2, _, (HF.out.kept ((Kept.refl _).alloc _)).1⟩
  simp [results, Try.results56, go_sem, re6_form, d0, d1, d2, d3, d4, d5, hn6]
set_option maxHeartbeats 2000000 in
theorem ratom_grp_close (g : Nat) (s : ByteArray) (k : Nat) (d : Int) (w : World) (h : w.heap[g]? = some (RO s k)) (hs : s.size ≤ 200) (hk : k < s.size) (hix : s[k].toNat = 40) (d1 : Int) (hd0 : 0 ≤ d) (hd : d < 20) (hd1 : d + 1 = d1) (k1 : Nat) (hki : (k : Int) + 1 = k1) (x : Re) (j j1 : Nat) (hj : j < s.size) (hj1 : (j : Int) + 1 = j1) (hb : (byteAt s j == some 41) = true) (HC : ∀ w, w.heap[g]? = some (RO s k1) → Calls Try.prog 26 #[ptr g, .int .i64 d1] w (RefPost g s (.ok x j) w)) : Calls Try.prog 56 #[ptr g, .int .i64 d] w (RefPost g s (.ok x j1) w) := by
  have hd' : ¬ 20 ≤ d := by omega
  have hk1b : k1 ≤ 200 := by omega
  unfold RefPost at *
  have HQ := Lib.hid HC
  clear HC
  have hlt2 : (k : Int) < s.size := by omega
  have hk0 : (0 : Int) ≤ k := by omega
  have hgl := blk_lt h
  have H := Lib.hid ((StO.start h).atZ (k' := k1) (.cells #[.int .i64 0, .int .u64 0, .int .u64 0, .int .u64 0, .int .u64 0, .slice none 0 0] 26))
  obtain ⟨⟨c0, c1, c2, c3⟩, f0, f1, f2, f3⟩ := RO.lay h
  clear h
  unfold ptr at *
  go_enter Try.func56, Try.ntmps56
  go_wp2_with fail
  generalize (w.setCell _ _).alloc _ = w2 at H ⊢
  clear c0 c1 c2 c3 f0 f1 f2 f3
  refine (HQ.out _ H.out.1).mono ?_
  rintro e w3 ⟨u, rfl, hu, h3, h2⟩
  clear HQ
  obtain ⟨hx, h2⟩ := h2
  obtain ⟨o1, s1, A1, n1, p1, rfl⟩ := hu
  have hgl2 := blk_lt (H.out.blk (r := w.heap.size) List.mem_cons_self)
  have HX := Lib.hid (hx.weak (S' := (w.heap.size + 1 ≤ ·)) (fun k hk h => by omega))
  clear hx
  have hn3 := blk_lt h2
  have hn4 := Gr.size h3
  have hn5 := blk_lt (H.out.blk (r := w.heap.size) List.mem_cons_self)
  replace H := Lib.hid (H.out.step h2 h3)
  clear h2 h3
  simp only [re6_form, wd_eq] at HX ⊢
  have HB := Lib.hid (blk_new w3 (.cells #[.int .i64 o1, .int .u64 (wdN s1 0), .int .u64 (wdN s1 1), .int .u64 (wdN s1 2), .int .u64 (wdN s1 3), .slice A1 n1 p1] 26))
  replace H := Lib.hid (H.out.kept ((Kept.refl _).alloc (.cells #[.int .i64 o1, .int .u64 (wdN s1 0), .int .u64 (wdN s1 1), .int .u64 (wdN s1 2), .int .u64 (wdN s1 3), .slice A1 n1 p1] 26)))
  replace HX := Lib.hid (HX.out.kept ((Kept.refl _).alloc (.cells #[.int .i64 o1, .int .u64 (wdN s1 0), .int .u64 (wdN s1 1), .int .u64 (wdN s1 2), .int .u64 (wdN s1 3), .slice A1 n1 p1] 26)))
  have hb1 := is_any g s j 41 _ H.out.1
  rw [hb] at hb1
  have HS := Lib.hid hb1
  clear hb hb1
  obtain ⟨⟨c0, c1, c2, c3⟩, f0, f1, f2, f3⟩ := RO.lay H.out.1
  go_wp2_with fail
  generalize w3.alloc _ = w4 at H HX HB HS ⊢
  refine HS.out.mono ?_
  rintro e w5 ⟨rfl, hk5⟩
  replace H := Lib.hid (H.out.kept hk5)
  replace HX := Lib.hid (HX.out.kept hk5)
  replace HB := Lib.hid (hk5.blk HB.out)
  clear hk5 HS
  clear c0 c1 c2 c3 f0 f1 f2 f3
  have hjb : j ≤ 200 := by omega
  obtain ⟨⟨c0, c1, c2, c3⟩, f0, f1, f2, f3⟩ := RO.lay H.out.1
  obtain ⟨⟨d0, d1, d2, d3, d4, d5⟩, g0, g1, g2, g3, g4, g5⟩ := box6 (H.out.blk (r := w.heap.size) List.mem_cons_self)
  obtain ⟨⟨x0, x1, x2, x3, x4, x5⟩, -⟩ := box6 HB.out
  have HF := Lib.hid (ret_reO (H.out.at (k' := j1)) (Nat.le_refl _) (.int .i64 o1) (.int .u64 (wdN s1 0)) (.int .u64 (wdN s1 1)) (.int .u64 (wdN s1 2)) (.int .u64 (wdN s1 3)) (.slice A1 n1 p1))
  have HY := Lib.hid (pass_re (r := w.heap.size) (S := (w.heap.size + 1 ≤ ·)) (S' := (w.heap.size ≤ ·)) (HX.out.set (p := ⟨g, 1, none⟩) (by simp; omega) (.int .i64 j1)) (by omega) (fun k h => by omega))
  simp only [re6_form, wd_eq] at HY
  go_wp2_with fail
  refine bodyPost_ret (v := re6 o1 s1 (.slice A1 n1 p1)) ?_ rfl ⟨_, rfl, six_re _ _ _ _ _, HF.out.2.2, HY.out, HF.out.1⟩
  simp [results, Try.results56, go_sem, re6_form, d0, d1, d2, d3, d4, d5]
set_option maxHeartbeats 2000000 in
theorem ratom_grp_open (g : Nat) (s : ByteArray) (k : Nat) (d : Int) (w : World) (h : w.heap[g]? = some (RO s k)) (hs : s.size ≤ 200) (hk : k < s.size) (hix : s[k].toNat = 40) (d1 : Int) (hd0 : 0 ≤ d) (hd : d < 20) (hd1 : d + 1 = d1) (k1 : Nat) (hki : (k : Int) + 1 = k1) (x : Re) (j : Nat) (hj : j ≤ s.size) (hb : (byteAt s j == some 41) = false) (HC : ∀ w, w.heap[g]? = some (RO s k1) → Calls Try.prog 26 #[ptr g, .int .i64 d1] w (RefPost g s (.ok x j) w)) : Calls Try.prog 56 #[ptr g, .int .i64 d] w (RefPost g s (.err 2 j) w) := by
  have hd' : ¬ 20 ≤ d := by omega
  have hk1b : k1 ≤ 200 := by omega
  unfold RefPost at *
  have HQ := Lib.hid HC
  clear HC
  have hlt2 : (k : Int) < s.size := by omega
  have hk0 : (0 : Int) ≤ k := by omega
  have hgl := blk_lt h
  have H := Lib.hid ((StO.start h).atZ (k' := k1) (.cells #[.int .i64 0, .int .u64 0, .int .u64 0, .int .u64 0, .int .u64 0, .slice none 0 0] 26))
  obtain ⟨⟨c0, c1, c2, c3⟩, f0, f1, f2, f3⟩ := RO.lay h
  clear h
  unfold ptr at *
  go_enter Try.func56, Try.ntmps56
  go_wp2_with fail
  generalize (w.setCell _ _).alloc _ = w2 at H ⊢
  clear c0 c1 c2 c3 f0 f1 f2 f3
  refine (HQ.out _ H.out.1).mono ?_
  rintro e w3 ⟨u, rfl, hu, h3, h2⟩
  clear HQ
  obtain ⟨hx, h2⟩ := h2
  obtain ⟨o1, s1, A1, n1, p1, rfl⟩ := hu
  have hgl2 := blk_lt (H.out.blk (r := w.heap.size) List.mem_cons_self)
  have HX := Lib.hid (hx.weak (S' := (w.heap.size + 1 ≤ ·)) (fun k hk h => by omega))
  clear hx
  have hn3 := blk_lt h2
  have hn4 := Gr.size h3
  have hn5 := blk_lt (H.out.blk (r := w.heap.size) List.mem_cons_self)
  replace H := Lib.hid (H.out.step h2 h3)
  clear h2 h3
  simp only [re6_form, wd_eq] at HX ⊢
  have HB := Lib.hid (blk_new w3 (.cells #[.int .i64 o1, .int .u64 (wdN s1 0), .int .u64 (wdN s1 1), .int .u64 (wdN s1 2), .int .u64 (wdN s1 3), .slice A1 n1 p1] 26))
  replace H := Lib.hid (H.out.kept ((Kept.refl _).alloc (.cells #[.int .i64 o1, .int .u64 (wdN s1 0), .int .u64 (wdN s1 1), .int .u64 (wdN s1 2), .int .u64 (wdN s1 3), .slice A1 n1 p1] 26)))
  replace HX := Lib.hid (HX.out.kept ((Kept.refl _).alloc (.cells #[.int .i64 o1, .int .u64 (wdN s1 0), .int .u64 (wdN s1 1), .int .u64 (wdN s1 2), .int .u64 (wdN s1 3), .slice A1 n1 p1] 26)))
  have hb1 := is_any g s j 41 _ H.out.1
  rw [hb] at hb1
  have HS := Lib.hid hb1
  clear hb hb1
  obtain ⟨⟨c0, c1, c2, c3⟩, f0, f1, f2, f3⟩ := RO.lay H.out.1
  go_wp2_with fail
  generalize w3.alloc _ = w4 at H HX HB HS ⊢
  refine HS.out.mono ?_
  rintro e w5 ⟨rfl, hk5⟩
  replace H := Lib.hid (H.out.kept hk5)
  replace HX := Lib.hid (HX.out.kept hk5)
  replace HB := Lib.hid (hk5.blk HB.out)
  clear hk5 HS
  clear c0 c1 c2 c3 f0 f1 f2 f3
  obtain ⟨⟨c0, c1, c2, c3⟩, f0, f1, f2, f3⟩ := RO.lay H.out.1
  have hjb : j ≤ 200 := by omega
  go_wp2_with fail
  refine (fail_any g s j 2 j _ H.out.1).mono ?_
  rintro e w6 ⟨rfl, h1, h2⟩
  have hw3 : w2.heap.size ≤ w3.heap.size := hn4
  have hg3 : w3.heap.size ≠ g := by omega
  replace HX := Lib.hid (HX.out.gr h2 (by omega))
  replace HB := Lib.hid (h2.blk HB.out hg3)
  replace H := Lib.hid (H.out.step h1 h2)
  clear h1 h2
  clear c0 c1 c2 c3 f0 f1 f2 f3
  obtain ⟨⟨c0, c1, c2, c3⟩, f0, f1, f2, f3⟩ := RF.lay H.out.1
  obtain ⟨⟨d0, d1, d2, d3, d4, d5⟩, g0, g1, g2, g3, g4, g5⟩ := box6 (H.out.blk (r := w.heap.size) List.mem_cons_self)
  obtain ⟨⟨x0, x1, x2, x3, x4, x5⟩, -⟩ := box6 HB.out
  have HF := Lib.hid (ret_reO (H.out.atF (a' := (j : Int) + 1)) (Nat.le_refl _) (.int .i64 o1) (.int .u64 (wdN s1 0)) (.int .u64 (wdN s1 1)) (.int .u64 (wdN s1 2)) (.int .u64 (wdN s1 3)) (.slice A1 n1 p1))
  go_wp2_with fail
  refine bodyPost_ret (v := re6 o1 s1 (.slice A1 n1 p1)) ?_ rfl ⟨_, rfl, six_re _ _ _ _ _, HF.out.2.2, _, HF.out.1⟩
  simp [results, Try.results56, go_sem, re6_form, d0, d1, d2, d3, d4, d5]
set_option maxHeartbeats 2000000 in
theorem ratom_dot (g : Nat) (s : ByteArray) (k : Nat) (d : Int) (w : World) (h : w.heap[g]? = some (RO s k)) (hs : s.size ≤ 200) (hk : k < s.size) (hix : s[k].toNat = 46) (k1 : Nat) (hki : (k : Int) + 1 = k1) : Calls Try.prog 56 #[ptr g, .int .i64 d] w (RefPost g s (.ok (.mk 1 dot []) k1) w) := by
  have hk1b : k1 ≤ 200 := by omega
  unfold RefPost at *
  have hlt2 : (k : Int) < s.size := by omega
  have hk0 : (0 : Int) ≤ k := by omega
  have hgl := blk_lt h
  have H := Lib.hid ((StO.start h).atZ (k' := k1) (.cells #[.int .i64 0, .int .u64 0, .int .u64 0, .int .u64 0, .int .u64 0, .slice none 0 0] 26))
  obtain ⟨⟨c0, c1, c2, c3⟩, f0, f1, f2, f3⟩ := RO.lay h
  clear h
  unfold ptr at *
  go_enter Try.func56, Try.ntmps56
  go_wp2_with fail
  generalize (w.setCell _ _).alloc _ = w2 at H ⊢
  clear c0 c1 c2 c3 f0 f1 f2 f3
  refine (rdot_any w2).mono ?_
  rintro e w4 ⟨rfl, h2⟩
  replace H := Lib.hid (H.out.kept h2)
  clear h2
  obtain ⟨⟨d0, d1, d2, d3, d4, d5⟩, g0, g1, g2, g3, g4, g5⟩ := box6 (H.out.blk (r := w.heap.size) List.mem_cons_self)
  unfold set4
  simp only [wd_eq]
  have HF := Lib.hid (ret_reO H.out (Nat.le_refl _) (.int .i64 1) (.int .u64 (wdN (dot) 0)) (.int .u64 (wdN (dot) 1)) (.int .u64 (wdN (dot) 2)) (.int .u64 (wdN (dot) 3)) (.slice none 0 0))
  go_wp2_with fail
  refine bodyPost_ret (v := re6 1 (dot) (.slice none 0 0)) ?_ rfl ⟨_, rfl, six_re _ _ _ _ _, HF.out.2.2, ReAt.leaf _ _ _ _, HF.out.1⟩
  simp [results, Try.results56, go_sem, re6_form, d0, d1, d2, d3, d4, d5]
set_option maxHeartbeats 2000000 in
theorem ratom_esc_end (g : Nat) (s : ByteArray) (k : Nat) (d : Int) (w : World) (h : w.heap[g]? = some (RO s k)) (hs : s.size ≤ 200) (hk : k < s.size) (hix : s[k].toNat = 92) (k1 : Nat) (hki : (k : Int) + 1 = k1) (hlt : s.size ≤ k1) : Calls Try.prog 56 #[ptr g, .int .i64 d] w (RefPost g s (.err 2 k1) w) := by
  have hk1b : k1 ≤ 200 := by omega
  unfold RefPost at *
  have hlt2 : (k : Int) < s.size := by omega
  have hk0 : (0 : Int) ≤ k := by omega
  have hgl := blk_lt h
  have H := Lib.hid ((StO.start h).atZ (k' := k1) (.cells #[.int .i64 0, .int .u64 0, .int .u64 0, .int .u64 0, .int .u64 0, .slice none 0 0] 26))
  obtain ⟨⟨c0, c1, c2, c3⟩, f0, f1, f2, f3⟩ := RO.lay h
  clear h
  unfold ptr at *
  go_enter Try.func56, Try.ntmps56
  go_wp2_with fail
  generalize (w.setCell _ _).alloc _ = w2 at H ⊢
  clear c0 c1 c2 c3 f0 f1 f2 f3
  refine (over_any g s k1 _ H.out.1).mono ?_
  rintro e w3 ⟨rfl, h2⟩
  rw [show decide (s.size ≤ k1) = true from by simp; omega]
  replace H := Lib.hid (H.out.kept h2)
  clear h2
  obtain ⟨⟨c0, c1, c2, c3⟩, f0, f1, f2, f3⟩ := RO.lay H.out.1
  go_wp2_with fail
  refine (fail_any g s k1 2 k1 _ H.out.1).mono ?_
  rintro e w4 ⟨rfl, h1, h2⟩
  replace H := Lib.hid (H.out.step h1 h2)
  clear h1 h2
  clear c0 c1 c2 c3 f0 f1 f2 f3
  obtain ⟨⟨d0, d1, d2, d3, d4, d5⟩, g0, g1, g2, g3, g4, g5⟩ := box6 (H.out.blk (r := w.heap.size) List.mem_cons_self)
  have HF := Lib.hid (ret_reO H.out (Nat.le_refl _) (.int .i64 0) (.int .u64 0) (.int .u64 0) (.int .u64 0) (.int .u64 0) (.slice none 0 0))
  go_wp2_with fail
  refine bodyPost_ret (v := zre) ?_ rfl ⟨_, rfl, six_zre, HF.out.2.2, _, HF.out.1⟩
  simp [results, Try.results56, go_sem, zre, d0, d1, d2, d3, d4, d5]
set_option maxRecDepth 100000 in
set_option maxHeartbeats 2000000 in
theorem ratom_esc_in (g : Nat) (s : ByteArray) (k : Nat) (d : Int) (w : World) (h : w.heap[g]? = some (RO s k)) (hs : s.size ≤ 200) (hk : k < s.size) (hix : s[k].toNat = 92) (k1 : Nat) (hki : (k : Int) + 1 = k1) (hlt : k1 < s.size) (k2 : Nat) (hki2 : (k1 : Int) + 1 = k2) (x : UInt8) (hx : s[k1] = x) : Calls Try.prog 56 #[ptr g, .int .i64 d] w (RefPost g s (.ok (.mk 1 (single x) []) k2) w) := by
  have hk1b : k1 ≤ 200 := by omega
  have hk2b : k2 ≤ 200 := by omega
  unfold RefPost at *
  have hlt2 : (k : Int) < s.size := by omega
  have hk0 : (0 : Int) ≤ k := by omega
  have hgl := blk_lt h
  have H := Lib.hid ((StO.start h).atZ (k' := k1) (.cells #[.int .i64 0, .int .u64 0, .int .u64 0, .int .u64 0, .int .u64 0, .slice none 0 0] 26))
  obtain ⟨⟨c0, c1, c2, c3⟩, f0, f1, f2, f3⟩ := RO.lay h
  clear h
  unfold ptr at *
  go_enter Try.func56, Try.ntmps56
  go_wp2_with fail
  generalize (w.setCell _ _).alloc _ = w2 at H ⊢
  clear c0 c1 c2 c3 f0 f1 f2 f3
  refine (over_any g s k1 _ H.out.1).mono ?_
  rintro e w3 ⟨rfl, h2⟩
  rw [show decide (s.size ≤ k1) = false from by simp; omega]
  replace H := Lib.hid (H.out.kept h2)
  clear h2
  obtain ⟨⟨c0, c1, c2, c3⟩, f0, f1, f2, f3⟩ := RO.lay H.out.1
  have HA := Lib.hid (H.out.at (k' := k2))
  go_wp2_with fail
  replace H := HA
  clear HA
  generalize w3.setCell _ _ = w5 at H ⊢
  clear c0 c1 c2 c3 f0 f1 f2 f3
  obtain ⟨⟨c0, c1, c2, c3⟩, f0, f1, f2, f3⟩ := RO.lay H.out.1
  obtain ⟨n, hn0⟩ : ∃ n : Nat, x.toNat = n := ⟨_, rfl⟩
  have hnb : n ≤ 255 := by have := x.toNat_lt; omega
  have e : putN 0#256 n 1 = single x := by unfold single putR; rw [hn0, show n + 1 - n = 1 from by omega]
  have HE := Lib.hid e
  have hix2 : s[k1].toNat = n := by rw [hx, hn0]
  have hlt3 : (k1 : Int) < s.size := by omega
  have hk10 : (0 : Int) ≤ k1 := by omega
  have hsub : (k2 : Int) - 1 = (k1 : Int) := by omega
  have hwr : IntKind.i64.wrap (k1 : Int) = k1 := IntWalk.i64_in _ (by omega)
  clear e hx hn0
  refine wp_region_fin' (by simp only [List.dropLast_cons_cons, List.dropLast_singleton]; exact rfl) (by simp only [List.getLast?_cons_cons, List.getLast?_singleton]; exact rfl) Kept pre_kept [([(0, none)], none), ([(100, some 0)], none), ([(101, some 1)], none), ([(102, some 2)], none), ([(0, none)], none), ([(104, some 4)], none), ([(105, some 5)], none), ([(106, some 6)], none), ([(107, some 7)], none), ([(103, some 3), (108, some 8)], none), ([(109, some 9)], none), ([(4, none), (110, some 10)], none)] (by kernel_rfl) 139 rfl (by kernel_rfl) (by kernel_rfl) rfl ?_
  apply go_val pre_kept
  · rintro ρ wr ⟨hg, hn, hc, hf, hgl⟩
    simp only [Need, fat, List.nil_append, List.cons_append, List.getD_cons_zero, List.getD_cons_succ, Fct.hold, and_true] at hn
    refine ⟨by simp [wantP, hn], ?_⟩
    simp [execOp, hn, hc, go_sem]
    exact rfl
  apply go_val pre_kept
  · rintro ρ wr ⟨hg, hn, hc, hf, hgl⟩
    simp only [Need, fat, List.nil_append, List.cons_append, List.getD_cons_zero, List.getD_cons_succ, Fct.hold, and_true] at hn
    refine ⟨by simp [wantP, hn], ?_⟩
    simp [execOp, hn, hc, go_sem]
    exact rfl
  apply go_val pre_kept
  · rintro ρ wr ⟨hg, hn, hc, hf, hgl⟩
    simp only [Need, fat, List.nil_append, List.cons_append, List.getD_cons_zero, List.getD_cons_succ, Fct.hold, and_true] at hn
    refine ⟨by simp [wantP, hn], ?_⟩
    simp [execOp, hn, hc, go_sem]
    exact rfl
  apply go_val pre_kept
  · rintro ρ wr ⟨hg, hn, hc, hf, hgl⟩
    simp only [Need, fat, List.nil_append, List.cons_append, List.getD_cons_zero, List.getD_cons_succ, Fct.hold, and_true] at hn
    have hl := And.intro (hg.cell c0) (hg.cell c1)
    refine ⟨by simp [wantP, hn], ?_⟩
    simp [execOp, hn, hc, hl, go_sem]
    exact rfl
  apply go_val pre_kept
  · rintro ρ wr ⟨hg, hn, hc, hf, hgl⟩
    simp only [Need, fat, List.nil_append, List.cons_append, List.getD_cons_zero, List.getD_cons_succ, Fct.hold, and_true] at hn
    refine ⟨by simp [wantP, hn], ?_⟩
    simp [execOp, hn, hc, go_sem]
    exact rfl
  apply go_val pre_kept
  · rintro ρ wr ⟨hg, hn, hc, hf, hgl⟩
    simp only [Need, fat, List.nil_append, List.cons_append, List.getD_cons_zero, List.getD_cons_succ, Fct.hold, and_true] at hn
    refine ⟨by simp [wantP, hn], ?_⟩
    simp [execOp, hn, hc, go_sem]
    exact rfl
  apply go_val pre_kept
  · rintro ρ wr ⟨hg, hn, hc, hf, hgl⟩
    simp only [Need, fat, List.nil_append, List.cons_append, List.getD_cons_zero, List.getD_cons_succ, Fct.hold, and_true] at hn
    refine ⟨by simp [wantP, hn], ?_⟩
    simp [execOp, hn, hc, go_sem]
    exact rfl
  apply go_val pre_kept
  · rintro ρ wr ⟨hg, hn, hc, hf, hgl⟩
    simp only [Need, fat, List.nil_append, List.cons_append, List.getD_cons_zero, List.getD_cons_succ, Fct.hold, and_true] at hn
    have hl := And.intro (hg.cell c0) (hg.cell c1)
    refine ⟨by simp [wantP, hn], ?_⟩
    simp [execOp, hn, hc, hl, go_sem]
    exact rfl
  apply go_val (x := .int .i64 (k1 : Int)) pre_kept
  · rintro ρ wr ⟨hg, hn, hc, hf, hgl⟩
    simp only [Need, fat, List.nil_append, List.cons_append, List.getD_cons_zero, List.getD_cons_succ, Fct.hold, and_true] at hn
    refine ⟨by simp [wantP, hn], ?_⟩
    simp [execOp, hn, hc, go_sem, hsub, hwr]
  apply go_val (x := .int .u8 (n : Int)) pre_kept
  · rintro ρ wr ⟨hg, hn, hc, hf, hgl⟩
    simp only [Need, fat, List.nil_append, List.cons_append, List.getD_cons_zero, List.getD_cons_succ, Fct.hold, and_true] at hn
    refine ⟨by simp [wantP, hn], ?_⟩
    simp [execOp, hn, hc, go_sem, hix2, hlt3, hk10]
  apply go_callv (x := re6 1 (putN 0#256 n 1) (.slice none 0 0))
  · rintro ρ wr ⟨hg, hn, hc, hf, hgl⟩
    simp only [Need, fat, List.nil_append, List.cons_append, List.getD_cons_zero, List.getD_cons_succ, Fct.hold, and_true] at hn
    refine ⟨by simp [wantP, hn], _, _, by simp [execOp, hn, hf, hc, resolve, invoke, go_sem]; exact ⟨rfl, rfl⟩, ?_⟩
    exact (one_any n hnb wr).mono fun e w' ⟨h1, h2⟩ => ⟨_, h1, rfl, h2⟩
  intro w2 hk2
  simp only [Post, List.nil_append, List.cons_append, Act.put, List.setIfInBounds_toArray, List.set_cons_zero, List.set_cons_succ]
  replace H := Lib.hid (H.out.drawn hk2)
  clear hk2 c0 c1 c2 c3 f0 f1 f2 f3
  rw [HE.out]
  obtain ⟨⟨d0, d1, d2, d3, d4, d5⟩, g0, g1, g2, g3, g4, g5⟩ := box6 (H.out.blk (r := w.heap.size) List.mem_cons_self)
  simp only [re6_form, wd_eq]
  rename_i hK
  unfold Oper.wp execOp
  go_simp
  refine hK _ _ ?_
  clear hK
  have HF := Lib.hid (ret_reO H.out (Nat.le_refl _) (.int .i64 1) (.int .u64 (wdN (single x) 0)) (.int .u64 (wdN (single x) 1)) (.int .u64 (wdN (single x) 2)) (.int .u64 (wdN (single x) 3)) (.slice none 0 0))
  go_wp2_with fail
  refine bodyPost_ret (v := re6 1 (single x) (.slice none 0 0)) ?_ rfl ⟨_, rfl, six_re _ _ _ _ _, HF.out.2.2, ReAt.leaf _ _ _ _, HF.out.1⟩
  simp [results, Try.results56, go_sem, re6_form, d0, d1, d2, d3, d4, d5]
set_option maxHeartbeats 2000000 in
theorem ratom_cls_err (g : Nat) (s : ByteArray) (k : Nat) (d : Int) (w : World) (h : w.heap[g]? = some (RO s k)) (hs : s.size ≤ 200) (hk : k < s.size) (hix : s[k].toNat = 91) (k1 : Nat) (hki : (k : Int) + 1 = k1) (er j : Nat) (HC : ∀ w, w.heap[g]? = some (RO s k1) → Calls Try.prog 59 #[ptr g] w (RefPost g s (.err er j) w)) : Calls Try.prog 56 #[ptr g, .int .i64 d] w (RefPost g s (.err er j) w) := by
  have hk1b : k1 ≤ 200 := by omega
  unfold RefPost at *
  have HQ := Lib.hid HC
  clear HC
  have hlt2 : (k : Int) < s.size := by omega
  have hk0 : (0 : Int) ≤ k := by omega
  have hgl := blk_lt h
  have H := Lib.hid ((StO.start h).atZ (k' := k1) (.cells #[.int .i64 0, .int .u64 0, .int .u64 0, .int .u64 0, .int .u64 0, .slice none 0 0] 26))
  obtain ⟨⟨c0, c1, c2, c3⟩, f0, f1, f2, f3⟩ := RO.lay h
  clear h
  unfold ptr at *
  go_enter Try.func56, Try.ntmps56
  go_wp2_with fail
  generalize (w.setCell _ _).alloc _ = w2 at H ⊢
  clear c0 c1 c2 c3 f0 f1 f2 f3
  refine (HQ.out _ H.out.1).mono ?_
  rintro e w3 ⟨u, rfl, hu, h3, h2⟩
  clear HQ
  obtain ⟨a, h2⟩ := h2
  obtain ⟨o1, s1, A1, n1, p1, rfl⟩ := hu
  replace H := Lib.hid (H.out.step h2 h3)
  clear h2 h3
  obtain ⟨⟨d0, d1, d2, d3, d4, d5⟩, g0, g1, g2, g3, g4, g5⟩ := box6 (H.out.blk (r := w.heap.size) List.mem_cons_self)
  have HF := Lib.hid (ret_reO H.out (Nat.le_refl _) (.int .i64 o1) (.int .u64 (wdN s1 0)) (.int .u64 (wdN s1 1)) (.int .u64 (wdN s1 2)) (.int .u64 (wdN s1 3)) (.slice A1 n1 p1))
  simp only [re6_form, wd_eq] at *
  go_wp2_with fail
  refine bodyPost_ret (v := re6 o1 s1 (.slice A1 n1 p1)) ?_ rfl ⟨_, rfl, six_re _ _ _ _ _, HF.out.2.2, _, HF.out.1⟩
  simp [results, Try.results56, go_sem, re6_form, d0, d1, d2, d3, d4, d5]
set_option maxHeartbeats 2000000 in
theorem ratom_cls_ok (g : Nat) (s : ByteArray) (k : Nat) (d : Int) (w : World) (h : w.heap[g]? = some (RO s k)) (hs : s.size ≤ 200) (hk : k < s.size) (hix : s[k].toNat = 91) (k1 : Nat) (hki : (k : Int) + 1 = k1) (x : Re) (j : Nat) (HC : ∀ w, w.heap[g]? = some (RO s k1) → Calls Try.prog 59 #[ptr g] w (RefPost g s (.ok x j) w)) : Calls Try.prog 56 #[ptr g, .int .i64 d] w (RefPost g s (.ok x j) w) := by
  have hk1b : k1 ≤ 200 := by omega
  unfold RefPost at *
  have HQ := Lib.hid HC
  clear HC
  have hlt2 : (k : Int) < s.size := by omega
  have hk0 : (0 : Int) ≤ k := by omega
  have hgl := blk_lt h
  have H := Lib.hid ((StO.start h).atZ (k' := k1) (.cells #[.int .i64 0, .int .u64 0, .int .u64 0, .int .u64 0, .int .u64 0, .slice none 0 0] 26))
  obtain ⟨⟨c0, c1, c2, c3⟩, f0, f1, f2, f3⟩ := RO.lay h
  clear h
  unfold ptr at *
  go_enter Try.func56, Try.ntmps56
  go_wp2_with fail
  generalize (w.setCell _ _).alloc _ = w2 at H ⊢
  clear c0 c1 c2 c3 f0 f1 f2 f3
  refine (HQ.out _ H.out.1).mono ?_
  rintro e w3 ⟨u, rfl, hu, h3, h2⟩
  clear HQ
  obtain ⟨hx, h2⟩ := h2
  obtain ⟨o1, s1, A1, n1, p1, rfl⟩ := hu
  have hgl2 := blk_lt (H.out.blk (r := w.heap.size) List.mem_cons_self)
  have HX := Lib.hid (hx.weak (S' := (w.heap.size + 1 ≤ ·)) (fun k hk h => by omega))
  clear hx
  replace H := Lib.hid (H.out.step h2 h3)
  clear h2 h3
  obtain ⟨⟨d0, d1, d2, d3, d4, d5⟩, g0, g1, g2, g3, g4, g5⟩ := box6 (H.out.blk (r := w.heap.size) List.mem_cons_self)
  have HF := Lib.hid (ret_reO H.out (Nat.le_refl _) (.int .i64 o1) (.int .u64 (wdN s1 0)) (.int .u64 (wdN s1 1)) (.int .u64 (wdN s1 2)) (.int .u64 (wdN s1 3)) (.slice A1 n1 p1))
  have HY := Lib.hid (pass_re (r := w.heap.size) (S := (w.heap.size + 1 ≤ ·)) (S' := (w.heap.size ≤ ·)) HX.out (by omega) (fun k h => by omega))
  simp only [re6_form, wd_eq] at HY ⊢
  go_wp2_with fail
  refine bodyPost_ret (v := re6 o1 s1 (.slice A1 n1 p1)) ?_ rfl ⟨_, rfl, six_re _ _ _ _ _, HF.out.2.2, HY.out, HF.out.1⟩
  simp [results, Try.results56, go_sem, re6_form, d0, d1, d2, d3, d4, d5]
set_option maxHeartbeats 2000000 in
theorem ratom_spec_true (g : Nat) (s : ByteArray) (k : Nat) (d : Int) (w : World) (h : w.heap[g]? = some (RO s k)) (hs : s.size ≤ 200) (hk : k < s.size) (c : Nat) (hix : s[k].toNat = c) (n1 : ¬ c = 40) (n2 : ¬ c = 91) (n3 : ¬ c = 46) (n4 : ¬ c = 92) (k1 : Nat) (hki : (k : Int) + 1 = k1) (HC : ∀ w, Calls Try.prog 60 #[.int .u8 c] w fun e w' => e = .returned (.bool true) ∧ w = w') : Calls Try.prog 56 #[ptr g, .int .i64 d] w (RefPost g s (.err 2 k) w) := by
  have hk1b : k1 ≤ 200 := by omega
  unfold RefPost at *
  have i1 : ¬ (c : Int) = 40 := by omega
  have i2 : ¬ (c : Int) = 91 := by omega
  have i3 : ¬ (c : Int) = 46 := by omega
  have i4 : ¬ (c : Int) = 92 := by omega
  have HQ := Lib.hid HC
  clear HC
  have hlt2 : (k : Int) < s.size := by omega
  have hk0 : (0 : Int) ≤ k := by omega
  have hgl := blk_lt h
  have H := Lib.hid ((StO.start h).alloc (.cells #[.int .i64 0, .int .u64 0, .int .u64 0, .int .u64 0, .int .u64 0, .slice none 0 0] 26))
  obtain ⟨⟨c0, c1, c2, c3⟩, f0, f1, f2, f3⟩ := RO.lay h
  have HH := Lib.hid h
  clear h
  unfold ptr at *
  go_enter Try.func56, Try.ntmps56
  go_wp2_with fail
  refine (HQ.out _).mono ?_
  rintro e w' ⟨rfl, rfl⟩
  clear HQ
  go_wp2_with fail
  refine (fail_any g s k 2 k _ H.out.1).mono ?_
  rintro e w3 ⟨rfl, h1, h2⟩
  replace H := Lib.hid (H.out.step h1 h2)
  clear h1 h2
  clear c0 c1 c2 c3 f0 f1 f2 f3
  obtain ⟨⟨d0, d1, d2, d3, d4, d5⟩, g0, g1, g2, g3, g4, g5⟩ := box6 (H.out.blk (r := w.heap.size) List.mem_cons_self)
  have HF := Lib.hid (ret_reO H.out (Nat.le_refl _) (.int .i64 0) (.int .u64 0) (.int .u64 0) (.int .u64 0) (.int .u64 0) (.slice none 0 0))
  go_wp2_with fail
  refine bodyPost_ret (v := zre) ?_ rfl ⟨_, rfl, six_zre, HF.out.2.2, _, HF.out.1⟩
  simp [results, Try.results56, go_sem, zre, d0, d1, d2, d3, d4, d5]
set_option maxHeartbeats 2000000 in
theorem ratom_spec_false (g : Nat) (s : ByteArray) (k : Nat) (d : Int) (w : World) (h : w.heap[g]? = some (RO s k)) (hs : s.size ≤ 200) (hk : k < s.size) (c : Nat) (hix : s[k].toNat = c) (n1 : ¬ c = 40) (n2 : ¬ c = 91) (n3 : ¬ c = 46) (n4 : ¬ c = 92) (k1 : Nat) (hki : (k : Int) + 1 = k1) (HC : ∀ w, Calls Try.prog 60 #[.int .u8 c] w fun e w' => e = .returned (.bool false) ∧ w = w') (x : UInt8) (hx : x.toNat = c) : Calls Try.prog 56 #[ptr g, .int .i64 d] w (RefPost g s (.ok (.mk 1 (single x) []) k1) w) := by
  have hk1b : k1 ≤ 200 := by omega
  unfold RefPost at *
  have i1 : ¬ (c : Int) = 40 := by omega
  have i2 : ¬ (c : Int) = 91 := by omega
  have i3 : ¬ (c : Int) = 46 := by omega
  have i4 : ¬ (c : Int) = 92 := by omega
  have HQ := Lib.hid HC
  clear HC
  have hlt2 : (k : Int) < s.size := by omega
  have hk0 : (0 : Int) ≤ k := by omega
  have hnb : c ≤ 255 := by have := x.toNat_lt; omega
  have e : putN 0#256 c 1 = single x := by unfold single putR; rw [hx, show c + 1 - c = 1 from by omega]
  have HE := Lib.hid e
  clear e hx
  have hgl := blk_lt h
  have H := Lib.hid ((StO.start h).alloc (.cells #[.int .i64 0, .int .u64 0, .int .u64 0, .int .u64 0, .int .u64 0, .slice none 0 0] 26))
  obtain ⟨⟨c0, c1, c2, c3⟩, f0, f1, f2, f3⟩ := RO.lay h
  have HH := Lib.hid h
  clear h
  unfold ptr at *
  go_enter Try.func56, Try.ntmps56
  go_wp2_with fail
  refine (HQ.out _).mono ?_
  rintro e w' ⟨rfl, rfl⟩
  clear HQ
  replace H := Lib.hid ((StO.start HH.out).atZ (k' := k1) (.cells #[.int .i64 0, .int .u64 0, .int .u64 0, .int .u64 0, .int .u64 0, .slice none 0 0] 26))
  go_wp2_with fail
  generalize (w.setCell _ _).alloc _ = w2 at H ⊢
  clear c0 c1 c2 c3 f0 f1 f2 f3
  refine (one_any c hnb w2).mono ?_
  rintro e w4 ⟨rfl, h2⟩
  rw [HE.out]
  replace H := Lib.hid (H.out.kept h2)
  clear h2
  obtain ⟨⟨d0, d1, d2, d3, d4, d5⟩, g0, g1, g2, g3, g4, g5⟩ := box6 (H.out.blk (r := w.heap.size) List.mem_cons_self)
  simp only [re6_form, wd_eq]
  have HF := Lib.hid (ret_reO H.out (Nat.le_refl _) (.int .i64 1) (.int .u64 (wdN (single x) 0)) (.int .u64 (wdN (single x) 1)) (.int .u64 (wdN (single x) 2)) (.int .u64 (wdN (single x) 3)) (.slice none 0 0))
  go_wp2_with fail
  refine bodyPost_ret (v := re6 1 (single x) (.slice none 0 0)) ?_ rfl ⟨_, rfl, six_re _ _ _ _ _, HF.out.2.2, ReAt.leaf _ _ _ _, HF.out.1⟩
  simp [results, Try.results56, go_sem, re6_form, d0, d1, d2, d3, d4, d5]
/-- The document's own atom: 20 - d brackets more may be opened. -/
theorem ratom_any (g : Nat) (s : ByteArray) (k d n : Nat) (w : World) (h : w.heap[g]? = some (RO s k)) (hs : s.size ≤ 200) (hk : k < s.size) (hd : d + n = 20)
    (HC : ∀ n', n = n' + 1 → ∀ w, w.heap[g]? = some (RO s (k + 1)) → Calls Try.prog 26 #[ptr g, .int .i64 (d + 1 : Nat)] w (RefPost g s (altL (grp s n') s [] (k + 1)) w)) : Calls Try.prog 56 #[ptr g, .int .i64 d] w (RefPost g s (atomP (grp s n) s k) w) := by
  unfold atomP
  rw [byteAt_some hk]
  have e1 : ∀ d : UInt8, (s[k] = d) = (s[k].toNat = d.toNat) := fun d => propext UInt8.toNat_inj.symm
  simp only
  by_cases h1 : s[k] = 40
  · rw [if_pos h1]
    rw [e1] at h1
    match n, hd, HC with
    | 0, hd, HC => exact ratom_deep g s k d w h hs hk h1 (by omega)
    | n + 1, hd, HC =>
      have hf := altL_fz (grp s n) s (grp_fw s n) _ [] (k + 1) (Nat.le_refl _) (by omega)
      have hc := HC n rfl
      unfold grp
      cases hR : altL (grp s n) s [] (k + 1) with
      | err er j =>
        rw [hR] at hf hc
        exact ratom_grp_err g s k d w h hs hk h1 ((d + 1 : Nat) : Int) (by omega) (by omega) (by omega) (k + 1) (by omega) er j hf.1 hc
      | ok x j =>
        rw [hR] at hf hc
        simp only
        cases hb : byteAt s j == some 41 with
        | true =>
          rw [if_pos (beq_iff_eq.1 hb)]
          exact ratom_grp_close g s k d w h hs hk h1 ((d + 1 : Nat) : Int) (by omega) (by omega) (by omega) (k + 1) (by omega) x j (j + 1) (byteAt_lt (beq_iff_eq.1 hb)) (by omega) hb hc
        | false =>
          rw [if_neg (by simpa using hb)]
          exact ratom_grp_open g s k d w h hs hk h1 ((d + 1 : Nat) : Int) (by omega) (by omega) (by omega) (k + 1) (by omega) x j hf.2 hb hc
  rw [if_neg h1]
  by_cases h2 : s[k] = 91
  · rw [if_pos h2]
    rw [e1] at h2
    have hc := fun w' (h' : w'.heap[g]? = some (RO s (k + 1))) => rclass_any g s k w' h' hs hk
    cases hR : classP s k with
    | err er j => rw [hR] at hc; exact ratom_cls_err g s k d w h hs hk h2 (k + 1) (by omega) er j hc
    | ok x j => rw [hR] at hc; exact ratom_cls_ok g s k d w h hs hk h2 (k + 1) (by omega) x j hc
  rw [if_neg h2]
  by_cases h3 : s[k] = 46
  · rw [if_pos h3]
    rw [e1] at h3
    exact ratom_dot g s k d w h hs hk h3 (k + 1) (by omega)
  rw [if_neg h3]
  by_cases h4 : s[k] = 92
  · have hm : marks.contains s[k] = false := by rw [h4]; decide
    rw [hm, if_neg (by simp)]
    have hb : byteAt s k = some 92 := by rw [byteAt_some hk, h4]
    rw [e1] at h4
    unfold litP litB
    rw [if_pos hb]
    by_cases hlt : k + 1 < s.size
    · rw [byteAt_some hlt]
      exact ratom_esc_in g s k d w h hs hk h4 (k + 1) (by omega) hlt (k + 1 + 1) (by omega) _ rfl
    · rw [byteAt_none hlt]
      exact ratom_esc_end g s k d w h hs hk h4 (k + 1) (by omega) (by omega)
  have hl : litP s k = .ok s[k] (k + 1) := by
    have hb : ¬ byteAt s k = some 92 := by rw [byteAt_some hk]; simpa using h4
    unfold litP litB
    rw [if_neg hb, byteAt_some hk]
  rw [e1] at h1 h2 h3 h4
  have hsp := fun w' => special_any s[k] w'
  cases hm : marks.contains s[k] with
  | true =>
    rw [hm] at hsp
    rw [if_pos rfl]
    exact ratom_spec_true g s k d w h hs hk _ rfl h1 h2 h3 h4 (k + 1) (by omega) hsp
  | false =>
    rw [hm] at hsp
    rw [if_neg (by simp), hl]
    exact ratom_spec_false g s k d w h hs hk _ rfl h1 h2 h3 h4 (k + 1) (by omega) hsp _ rfl
end Go.Proofs.Ytdbffbdpofodmaa
