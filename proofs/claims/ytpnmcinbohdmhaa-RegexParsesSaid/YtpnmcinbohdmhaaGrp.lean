/-
  What regex.group reads. Conditions: the text is no longer than 200 bytes, and the reader stands at a byte of it.
-/
import Derived.Test.YtpnmcinbohdmhaaAtom
set_option linter.unusedSimpArgs false
namespace Go.Proofs.Ytpnmcinbohdmhaa
open Go Go.RowKit Kit
theorem Kit.St.begin2 {g : Nat} {s : ByteArray} {k op : Nat} {w : World} (h : Rd g s k op w) (k' op' : Nat) (o : Obj) : St g s k' op' [(w.heap.size, o)] w (((w.setCell ⟨g, 2, none⟩ (.int .i64 op')).setCell ⟨g, 1, none⟩ (.int .i64 k')).alloc o) := by
  have h1 := (((St.start h).open op').at k').alloc o
  have e : ((w.setCell ⟨g, 2, none⟩ (.int .i64 op')).setCell ⟨g, 1, none⟩ (.int .i64 k')).heap.size = w.heap.size := by simp [World.setCell]
  rw [e] at h1
  exact h1
set_option maxHeartbeats 2000000 in
theorem group_deep (g : Nat) (s : ByteArray) (k op : Nat) (w : World) (h : Rd g s k op w) (hop : op = 20) : Calls Try.prog 47 #[ptr g] w (RePost g s op (.err 4 k) w) := by
  have hoi : (op : Int) = 20 := by omega
  unfold RePost
  have hgl := h.lt
  have H := Lib.hid ((St.start h).alloc (.cells #[.int .i64 0, .int .u64 0, .int .u64 0, .int .u64 0, .int .u64 0, .slice none 0 0] 27))
  obtain ⟨⟨c0, c1, c2⟩, f0, f1, f2⟩ := h.cells
  clear h
  unfold ptr at *
  go_enter Try.func47, Try.ntmps47
  go_wp2_with fail
  refine bodyPost_ret (v := .tuple #[zre, .int .i64 4]) ?_ rfl ⟨rfl, ⟨_, H.out.1⟩, H.out.2.2⟩
  simp [results, Try.results47, go_sem, zre]
set_option maxHeartbeats 2000000 in
theorem group_err (g : Nat) (s : ByteArray) (k op : Nat) (w : World) (h : Rd g s k op w) (hs : s.size ≤ 200) (hk : k < s.size) (hop : op < 20) (er j : Nat) (her : 0 < er) (HA : ∀ w, Rd g s (k + 1) (op + 1) w → Calls Try.prog 17 #[ptr g] w (RePost g s (op + 1) (.err er j) w)) : Calls Try.prog 47 #[ptr g] w (RePost g s op (.err er j) w) := by
  obtain ⟨k1, hk1⟩ : ∃ k1, k + 1 = k1 := ⟨_, rfl⟩
  obtain ⟨op1, hop1⟩ : ∃ op1, op + 1 = op1 := ⟨_, rfl⟩
  have hki : (k : Int) + 1 = k1 := by omega
  have hoi : (op : Int) + 1 = op1 := by omega
  have ho2 : (op1 : Int) - 1 = op := by omega
  have ho20 : ¬ (op : Int) = 20 := by omega
  have hk1b : k1 ≤ 200 := by omega
  have hopb : op ≤ 19 := by omega
  have hop1b : op1 ≤ 20 := by omega
  rw [hk1, hop1] at HA
  have HQ := Lib.hid HA
  unfold RePost at HQ
  have hgl := h.lt
  have H := Lib.hid (St.begin2 h k1 op1 (.cells #[.int .i64 0, .int .u64 0, .int .u64 0, .int .u64 0, .int .u64 0, .slice none 0 0] 27))
  obtain ⟨⟨c0, c1, c2⟩, f0, f1, f2⟩ := h.cells
  clear h HA hk1 hop1 hop
  unfold ptr at *
  unfold RePost
  go_enter Try.func47, Try.ntmps47
  go_wp2_with fail
  generalize ((w.setCell _ _).setCell _ _).alloc _ = w1 at H ⊢
  clear c0 c1 c2 f0 f1 f2
  refine (HQ.out _ H.out.1).mono ?_
  rintro e w3 ⟨rfl, ⟨op', h2⟩, h3⟩
  replace H := Lib.hid (H.out.step h2 h3)
  clear h2 h3 HQ
  unfold zre
  have her2 : ¬ (er : Int) = 0 := by omega
  have hrl := blk_lt (H.out.blk List.mem_cons_self)
  obtain ⟨⟨d0, d1, d2, d3, d4, d5⟩, g0, g1, g2, g3, g4, g5⟩ := box6 (H.out.blk List.mem_cons_self)
  have HF := Lib.hid (ret_re H.out (Nat.le_refl _) (.int .i64 0) (.int .u64 0) (.int .u64 0) (.int .u64 0) (.int .u64 0) (.slice none 0 0))
  go_wp2_with fail
  refine bodyPost_ret (v := .tuple #[zre, .int .i64 er]) ?_ rfl ⟨rfl, ⟨_, HF.out.2.1.kept ((Kept.refl _).alloc _)⟩, HF.out.2.2.alloc _⟩
  simp [results, Try.results47, go_sem, zre, d0, d1, d2, d3, d4, d5, hrl]
set_option maxHeartbeats 2000000 in
theorem group_no (g : Nat) (s : ByteArray) (k op : Nat) (w : World) (h : Rd g s k op w) (hs : s.size ≤ 200) (hk : k < s.size) (hop : op < 20) (x : Re) (j : Nat) (hb : (byteAt s j == some 41) = false) (HA : ∀ w, Rd g s (k + 1) (op + 1) w → Calls Try.prog 17 #[ptr g] w (RePost g s (op + 1) (.ok x j) w)) : Calls Try.prog 47 #[ptr g] w (RePost g s op (.err 2 j) w) := by
  obtain ⟨k1, hk1⟩ : ∃ k1, k + 1 = k1 := ⟨_, rfl⟩
  obtain ⟨op1, hop1⟩ : ∃ op1, op + 1 = op1 := ⟨_, rfl⟩
  have hki : (k : Int) + 1 = k1 := by omega
  have hoi : (op : Int) + 1 = op1 := by omega
  have ho2 : (op1 : Int) - 1 = op := by omega
  have ho20 : ¬ (op : Int) = 20 := by omega
  have hk1b : k1 ≤ 200 := by omega
  have hopb : op ≤ 19 := by omega
  have hop1b : op1 ≤ 20 := by omega
  rw [hk1, hop1] at HA
  have HQ := Lib.hid HA
  unfold RePost at HQ
  have hgl := h.lt
  have H := Lib.hid (St.begin2 h k1 op1 (.cells #[.int .i64 0, .int .u64 0, .int .u64 0, .int .u64 0, .int .u64 0, .slice none 0 0] 27))
  obtain ⟨⟨c0, c1, c2⟩, f0, f1, f2⟩ := h.cells
  clear h HA hk1 hop1 hop
  unfold ptr at *
  unfold RePost
  go_enter Try.func47, Try.ntmps47
  go_wp2_with fail
  generalize ((w.setCell _ _).setCell _ _).alloc _ = w1 at H ⊢
  clear c0 c1 c2 f0 f1 f2
  refine (HQ.out _ H.out.1).mono ?_
  rintro e w3 ⟨u, rfl, hx, h2, h3⟩
  obtain ⟨o1, s1, A1, n1, p1, rfl⟩ := hx.form
  have hrl := blk_lt (H.out.blk List.mem_cons_self)
  have HX : Hid (ReAt (w.heap.size + 1 ≤ ·) w3 (re6 o1 s1 (.slice A1 n1 p1)) x) := Lib.hid (hx.weak fun k _ hk => by omega)
  replace H := Lib.hid ((H.out.step h2 h3).alloc (.cells #[.int .i64 o1, .int .u64 (wdN s1 0), .int .u64 (wdN s1 1), .int .u64 (wdN s1 2), .int .u64 (wdN s1 3), .slice A1 n1 p1] 27))
  have hsz := Gr.size h3
  replace HX := Lib.hid (HX.out.kept ((Kept.refl _).alloc (.cells #[.int .i64 o1, .int .u64 (wdN s1 0), .int .u64 (wdN s1 1), .int .u64 (wdN s1 2), .int .u64 (wdN s1 3), .slice A1 n1 p1] 27)))
  have HS := Lib.hid (sees_any g s j op1 41 _ H.out.1)
  rw [hb] at HS
  clear h2 h3 HQ hx hb
  simp only [re6_form] at HX ⊢
  go_wp2_with fail
  generalize w3.alloc _ = w4 at H HX HS ⊢
  refine HS.out.mono ?_
  rintro e w5 ⟨rfl, h2⟩
  replace H := Lib.hid (H.out.kept h2)
  replace HX := Lib.hid (HX.out.kept h2)
  clear h2 HS
  replace H := Lib.hid H.out.drop
  obtain ⟨⟨d0, d1, d2, d3, d4, d5⟩, g0, g1, g2, g3, g4, g5⟩ := box6 (H.out.blk List.mem_cons_self)
  have HF := Lib.hid (ret_re H.out (Nat.le_refl _) (.int .i64 0) (.int .u64 0) (.int .u64 0) (.int .u64 0) (.int .u64 0) (.slice none 0 0))
  go_wp2_with fail
  refine bodyPost_ret (v := .tuple #[zre, .int .i64 2]) ?_ rfl ⟨rfl, ⟨_, HF.out.2.1⟩, HF.out.2.2⟩
  simp [results, Try.results47, go_sem, zre, d0, d1, d2, d3, d4, d5]
set_option maxHeartbeats 2000000 in
theorem group_yes (g : Nat) (s : ByteArray) (k op : Nat) (w : World) (h : Rd g s k op w) (hs : s.size ≤ 200) (hk : k < s.size) (hop : op < 20) (x : Re) (j : Nat) (hb : (byteAt s j == some 41) = true) (HA : ∀ w, Rd g s (k + 1) (op + 1) w → Calls Try.prog 17 #[ptr g] w (RePost g s (op + 1) (.ok x j) w)) : Calls Try.prog 47 #[ptr g] w (RePost g s op (.ok x (j + 1)) w) := by
  obtain ⟨j1, hj1⟩ : ∃ j1, j + 1 = j1 := ⟨_, rfl⟩
  have hji : (j : Int) + 1 = j1 := by omega
  have hj1b : j1 ≤ 200 := by have := byteAt_lt (beq_iff_eq.1 hb); omega
  rw [hj1]
  clear hj1
  obtain ⟨k1, hk1⟩ : ∃ k1, k + 1 = k1 := ⟨_, rfl⟩
  obtain ⟨op1, hop1⟩ : ∃ op1, op + 1 = op1 := ⟨_, rfl⟩
  have hki : (k : Int) + 1 = k1 := by omega
  have hoi : (op : Int) + 1 = op1 := by omega
  have ho2 : (op1 : Int) - 1 = op := by omega
  have ho20 : ¬ (op : Int) = 20 := by omega
  have hk1b : k1 ≤ 200 := by omega
  have hopb : op ≤ 19 := by omega
  have hop1b : op1 ≤ 20 := by omega
  rw [hk1, hop1] at HA
  have HQ := Lib.hid HA
  unfold RePost at HQ
  have hgl := h.lt
  have H := Lib.hid (St.begin2 h k1 op1 (.cells #[.int .i64 0, .int .u64 0, .int .u64 0, .int .u64 0, .int .u64 0, .slice none 0 0] 27))
  obtain ⟨⟨c0, c1, c2⟩, f0, f1, f2⟩ := h.cells
  clear h HA hk1 hop1 hop
  unfold ptr at *
  unfold RePost
  go_enter Try.func47, Try.ntmps47
  go_wp2_with fail
  generalize ((w.setCell _ _).setCell _ _).alloc _ = w1 at H ⊢
  clear c0 c1 c2 f0 f1 f2
  refine (HQ.out _ H.out.1).mono ?_
  rintro e w3 ⟨u, rfl, hx, h2, h3⟩
  obtain ⟨o1, s1, A1, n1, p1, rfl⟩ := hx.form
  have hrl := blk_lt (H.out.blk List.mem_cons_self)
  have HX : Hid (ReAt (w.heap.size + 1 ≤ ·) w3 (re6 o1 s1 (.slice A1 n1 p1)) x) := Lib.hid (hx.weak fun k _ hk => by omega)
  replace H := Lib.hid ((H.out.step h2 h3).alloc (.cells #[.int .i64 o1, .int .u64 (wdN s1 0), .int .u64 (wdN s1 1), .int .u64 (wdN s1 2), .int .u64 (wdN s1 3), .slice A1 n1 p1] 27))
  have hsz := Gr.size h3
  replace HX := Lib.hid (HX.out.kept ((Kept.refl _).alloc (.cells #[.int .i64 o1, .int .u64 (wdN s1 0), .int .u64 (wdN s1 1), .int .u64 (wdN s1 2), .int .u64 (wdN s1 3), .slice A1 n1 p1] 27)))
  have HS := Lib.hid (sees_any g s j op1 41 _ H.out.1)
  rw [hb] at HS
  clear h2 h3 HQ hx hb
  simp only [re6_form] at HX ⊢
  go_wp2_with fail
  generalize w3.alloc _ = w4 at H HX HS ⊢
  refine HS.out.mono ?_
  rintro e w5 ⟨rfl, h2⟩
  replace H := Lib.hid (H.out.kept h2)
  replace HX := Lib.hid (HX.out.kept h2)
  clear h2 HS
  obtain ⟨⟨c0, c1, c2⟩, f0, f1, f2⟩ := H.out.1.cells
  obtain ⟨⟨x0, x1, x2, x3, x4, x5⟩, -⟩ := box6 (H.out.blk List.mem_cons_self)
  obtain ⟨⟨d0, d1, d2, d3, d4, d5⟩, g0, g1, g2, g3, g4, g5⟩ := box6 (H.out.blk (List.mem_cons_of_mem _ List.mem_cons_self))
  have HN := Lib.hid ((H.out.open op).at j1)
  have HY : Hid (ReAt (w.heap.size + 1 ≤ ·) ((w5.setCell ⟨g, 2, none⟩ (.int .i64 op)).setCell ⟨g, 1, none⟩ (.int .i64 j1)) (.agg #[.int .i64 o1, .int .u64 (wdN s1 0), .int .u64 (wdN s1 1), .int .u64 (wdN s1 2), .int .u64 (wdN s1 3), .slice A1 n1 p1]) x) :=
    Lib.hid (HX.out.gr (((Gr.refl g w5).set (p := ⟨g, 2, none⟩) (.inl rfl) _).set (p := ⟨g, 1, none⟩) (.inl rfl) _) (by omega))
  have HF := Lib.hid (ret_pass HN.out.drop HY.out)
  simp only [re6_form, wd_eq] at HF
  go_wp2_with fail
  refine bodyPost_ret (v := .tuple #[re6 o1 s1 (.slice A1 n1 p1), .int .i64 0]) ?_ rfl ⟨_, rfl, HF.out⟩
  simp [results, Try.results47, go_sem, re6_form, d0, d1, d2, d3, d4, d5]
theorem group_any (d g : Nat) (s : ByteArray) (k op : Nat) (w : World) (h : Rd g s k op w) (hs : s.size ≤ 200) (hk : k < s.size) (hop : op + d = 20)
    (HA : ∀ d', d = d' + 1 → ∀ w, Rd g s (k + 1) (op + 1) w → Calls Try.prog 17 #[ptr g] w (RePost g s (op + 1) (altL (grp s d') s [] (k + 1)) w)) : Calls Try.prog 47 #[ptr g] w (RePost g s op (grp s d k) w) := by
  cases d with
  | zero => exact group_deep g s k op w h hop
  | succ d =>
    have hf := altL_fz (grp s d) s (grp_fw s d) _ [] (k + 1) (Nat.le_refl _) (by omega)
    have HA' := HA d rfl
    unfold grp
    cases hR : altL (grp s d) s [] (k + 1) with
    | err er j => rw [hR] at HA' hf; exact group_err g s k op w h hs hk (by omega) er j hf.1 HA'
    | ok x j =>
      rw [hR] at HA'
      simp only
      by_cases hb : byteAt s j = some 41
      · rw [if_pos hb]
        exact group_yes g s k op w h hs hk (by omega) x j (by simp [hb]) HA'
      · rw [if_neg hb]
        exact group_no g s k op w h hs hk (by omega) x j (by simp [hb]) HA'
end Go.Proofs.Ytpnmcinbohdmhaa
