/-
  What regex.atom and regex.group read. Conditions: the text is no longer than 200 bytes, and the reader stands at a byte of it.
-/
import Derived.Test.YtpnmcinbohdmhaaSm
set_option linter.unusedSimpArgs false
namespace Go.Proofs.Ytpnmcinbohdmhaa
open Go Go.RowKit Kit
theorem ret_pass {g k op o1 n1 p1 : Nat} {s1 : BitVec 256} {A1 : Option Addr} {s : ByteArray} {w W : World} {x : Re} (h : St g s k op [(w.heap.size, (.cells #[.int .i64 0, .int .u64 0, .int .u64 0, .int .u64 0, .int .u64 0, .slice none 0 0] 27))] w W) (hx : ReAt (w.heap.size + 1 ≤ ·) W (re6 o1 s1 (.slice A1 n1 p1)) x) :
    ReAt (w.heap.size ≤ ·) ((((((W.setCell ⟨w.heap.size, 0, none⟩ (.int .i64 o1)).setCell ⟨w.heap.size, 1, none⟩ (wd s1 0)).setCell ⟨w.heap.size, 2, none⟩ (wd s1 1)).setCell ⟨w.heap.size, 3, none⟩ (wd s1 2)).setCell ⟨w.heap.size, 4, none⟩ (wd s1 3)).setCell ⟨w.heap.size, 5, none⟩ (.slice A1 n1 p1)) (re6 o1 s1 (.slice A1 n1 p1)) x ∧
    Rd g s k op ((((((W.setCell ⟨w.heap.size, 0, none⟩ (.int .i64 o1)).setCell ⟨w.heap.size, 1, none⟩ (wd s1 0)).setCell ⟨w.heap.size, 2, none⟩ (wd s1 1)).setCell ⟨w.heap.size, 3, none⟩ (wd s1 2)).setCell ⟨w.heap.size, 4, none⟩ (wd s1 3)).setCell ⟨w.heap.size, 5, none⟩ (.slice A1 n1 p1)) ∧
    Gr g w ((((((W.setCell ⟨w.heap.size, 0, none⟩ (.int .i64 o1)).setCell ⟨w.heap.size, 1, none⟩ (wd s1 0)).setCell ⟨w.heap.size, 2, none⟩ (wd s1 1)).setCell ⟨w.heap.size, 3, none⟩ (wd s1 2)).setCell ⟨w.heap.size, 4, none⟩ (wd s1 3)).setCell ⟨w.heap.size, 5, none⟩ (.slice A1 n1 p1)) := by
  have hf := ret_re h (Nat.le_refl _) (.int .i64 o1) (wd s1 0) (wd s1 1) (wd s1 2) (wd s1 3) (.slice A1 n1 p1)
  refine ⟨hx.keep (fun k _ hk => by omega) (fun a v ha hc => ?_), hf.2.1, hf.2.2⟩
  have hne : ∀ (i : Nat), (⟨w.heap.size, i, none⟩ : Addr) ≠ a := fun i e => by rw [← e] at ha; simp at ha; omega
  rw [World.cell?_setCell_other _ _ _ _ (hne 5), World.cell?_setCell_other _ _ _ _ (hne 4), World.cell?_setCell_other _ _ _ _ (hne 3), World.cell?_setCell_other _ _ _ _ (hne 2), World.cell?_setCell_other _ _ _ _ (hne 1), World.cell?_setCell_other _ _ _ _ (hne 0)]
  exact hc
set_option maxHeartbeats 2000000 in
theorem atom_grp_err (g : Nat) (s : ByteArray) (k op : Nat) (w : World) (h : Rd g s k op w) (_hs : s.size ≤ 200) (hk : k < s.size) (hix : s[k].toNat = 40) (er j : Nat) (_her : 0 < er) (HC : ∀ w, Rd g s k op w → Calls Try.prog 47 #[ptr g] w (RePost g s op (.err er j) w)) : Calls Try.prog 35 #[ptr g] w (RePost g s op (.err er j) w) := by
  have HQ := Lib.hid HC
  clear HC
  unfold RePost at *
  have hlt2 : (k : Int) < s.size := by omega
  have hk0 : (0 : Int) ≤ k := by omega
  have hgl := h.lt
  have H := Lib.hid ((St.start h).alloc (.cells #[.int .i64 0, .int .u64 0, .int .u64 0, .int .u64 0, .int .u64 0, .slice none 0 0] 27))
  obtain ⟨⟨c0, c1, c2⟩, f0, f1, f2⟩ := h.cells
  clear h
  unfold ptr at *
  go_enter Try.func35, Try.ntmps35
  go_wp2_with fail
  obtain ⟨⟨b0, b1, -⟩, -⟩ := H.out.1.cells
  clear c0 c1 c2 f0 f1 f2
  refine wp_region_go Kept pre_kept [([(0, none)], none), ([(7, some 0)], none), ([(8, some 1)], none), ([(9, some 2)], none), ([(0, none)], none), ([(11, some 4)], none), ([(12, some 5)], none), ([(13, some 6)], none), ([(10, some 3), (14, some 7)], none), ([(15, some 8)], none)] (by kernel_rfl) 59 rfl (by kernel_rfl) (by kernel_rfl) ?_
  apply go_val pre_kept
  · rintro ρ wr ⟨hg, hn, hc, hf, hgl⟩
    simp only [Need, fat, List.nil_append, List.cons_append, List.getD_cons_zero, List.getD_cons_succ, Fct.hold, and_true] at hn
    refine ⟨by simp [wantP, hn], ?_⟩
    simp [execOp, hn, hc, go_sem]
    exact rfl
  apply go_val pre_kept
  · rintro ρ wr ⟨hg, hn, hc, hf, hgl⟩
    simp only [Need, fat, List.nil_append, List.cons_append, List.getD_cons_zero, List.getD_cons_succ, Fct.hold, and_true] at hn
    refine ⟨by simp [wantP, hn], ?_⟩
    simp [execOp, hn, hc, go_sem]
    exact rfl
  apply go_val pre_kept
  · rintro ρ wr ⟨hg, hn, hc, hf, hgl⟩
    simp only [Need, fat, List.nil_append, List.cons_append, List.getD_cons_zero, List.getD_cons_succ, Fct.hold, and_true] at hn
    refine ⟨by simp [wantP, hn], ?_⟩
    simp [execOp, hn, hc, go_sem]
    exact rfl
  apply go_val pre_kept
  · rintro ρ wr ⟨hg, hn, hc, hf, hgl⟩
    simp only [Need, fat, List.nil_append, List.cons_append, List.getD_cons_zero, List.getD_cons_succ, Fct.hold, and_true] at hn
    have hl := And.intro (hg.cell b0) (hg.cell b1)
    refine ⟨by simp [wantP, hn], ?_⟩
    simp [execOp, hn, hc, hl, go_sem]
    exact rfl
  apply go_val pre_kept
  · rintro ρ wr ⟨hg, hn, hc, hf, hgl⟩
    simp only [Need, fat, List.nil_append, List.cons_append, List.getD_cons_zero, List.getD_cons_succ, Fct.hold, and_true] at hn
    refine ⟨by simp [wantP, hn], ?_⟩
    simp [execOp, hn, hc, go_sem]
    exact rfl
  apply go_val pre_kept
  · rintro ρ wr ⟨hg, hn, hc, hf, hgl⟩
    simp only [Need, fat, List.nil_append, List.cons_append, List.getD_cons_zero, List.getD_cons_succ, Fct.hold, and_true] at hn
    refine ⟨by simp [wantP, hn], ?_⟩
    simp [execOp, hn, hc, go_sem]
    exact rfl
  apply go_val pre_kept
  · rintro ρ wr ⟨hg, hn, hc, hf, hgl⟩
    simp only [Need, fat, List.nil_append, List.cons_append, List.getD_cons_zero, List.getD_cons_succ, Fct.hold, and_true] at hn
    refine ⟨by simp [wantP, hn], ?_⟩
    simp [execOp, hn, hc, go_sem]
    exact rfl
  apply go_val pre_kept
  · rintro ρ wr ⟨hg, hn, hc, hf, hgl⟩
    simp only [Need, fat, List.nil_append, List.cons_append, List.getD_cons_zero, List.getD_cons_succ, Fct.hold, and_true] at hn
    have hl := And.intro (hg.cell b0) (hg.cell b1)
    refine ⟨by simp [wantP, hn], ?_⟩
    simp [execOp, hn, hc, hl, go_sem]
    exact rfl
  apply go_val (x := .int .u8 ((40 : Nat) : Int)) pre_kept
  · rintro ρ wr ⟨hg, hn, hc, hf, hgl⟩
    simp only [Need, fat, List.nil_append, List.cons_append, List.getD_cons_zero, List.getD_cons_succ, Fct.hold, and_true] at hn
    refine ⟨by simp [wantP, hn], ?_⟩
    simp [execOp, hn, hc, go_sem, hix, hlt2, hk0]
  apply go_val pre_kept
  · rintro ρ wr ⟨hg, hn, hc, hf, hgl⟩
    simp only [Need, fat, List.nil_append, List.cons_append, List.getD_cons_zero, List.getD_cons_succ, Fct.hold, and_true] at hn
    refine ⟨by simp [wantP, hn], ?_⟩
    simp [execOp, hn, hc, go_sem]
    exact rfl
  intro w2 hk2
  simp only [Post, List.nil_append, List.cons_append, Act.put, List.setIfInBounds_toArray, List.set_cons_zero, List.set_cons_succ]
  rename_i hK
  refine hK _ _ ?_
  clear hK
  replace H := Lib.hid (H.out.drawn hk2)
  clear hk2
  obtain ⟨⟨c0, c1, c2⟩, f0, f1, f2⟩ := H.out.1.cells
  clear b0 b1 c0 c1 c2 f0 f1 f2
  go_wp2_with fail
  refine (HQ.out _ H.out.1).mono ?_
  rintro e w3 ⟨rfl, ⟨op', h2⟩, h3⟩
  replace H := Lib.hid (H.out.step h2 h3)
  clear h2 h3 HQ
  unfold zre
  obtain ⟨⟨d0, d1, d2, d3, d4, d5⟩, g0, g1, g2, g3, g4, g5⟩ := box6 (H.out.blk List.mem_cons_self)
  have HF := Lib.hid (ret_re H.out (Nat.le_refl _) (.int .i64 0) (.int .u64 0) (.int .u64 0) (.int .u64 0) (.int .u64 0) (.slice none 0 0))
  go_wp2_with fail
  refine bodyPost_ret (v := .tuple #[zre, .int .i64 er]) ?_ rfl ⟨rfl, ⟨_, HF.out.2.1⟩, HF.out.2.2⟩
  simp [results, Try.results35, go_sem, zre, d0, d1, d2, d3, d4, d5]
set_option maxHeartbeats 2000000 in
theorem atom_grp_ok (g : Nat) (s : ByteArray) (k op : Nat) (w : World) (h : Rd g s k op w) (_hs : s.size ≤ 200) (hk : k < s.size) (hix : s[k].toNat = 40) (x : Re) (j : Nat) (HC : ∀ w, Rd g s k op w → Calls Try.prog 47 #[ptr g] w (RePost g s op (.ok x j) w)) : Calls Try.prog 35 #[ptr g] w (RePost g s op (.ok x j) w) := by
  have HQ := Lib.hid HC
  clear HC
  unfold RePost at *
  have hlt2 : (k : Int) < s.size := by omega
  have hk0 : (0 : Int) ≤ k := by omega
  have hgl := h.lt
  have H := Lib.hid ((St.start h).alloc (.cells #[.int .i64 0, .int .u64 0, .int .u64 0, .int .u64 0, .int .u64 0, .slice none 0 0] 27))
  obtain ⟨⟨c0, c1, c2⟩, f0, f1, f2⟩ := h.cells
  clear h
  unfold ptr at *
  go_enter Try.func35, Try.ntmps35
  go_wp2_with fail
  obtain ⟨⟨b0, b1, -⟩, -⟩ := H.out.1.cells
  clear c0 c1 c2 f0 f1 f2
  refine wp_region_go Kept pre_kept [([(0, none)], none), ([(7, some 0)], none), ([(8, some 1)], none), ([(9, some 2)], none), ([(0, none)], none), ([(11, some 4)], none), ([(12, some 5)], none), ([(13, some 6)], none), ([(10, some 3), (14, some 7)], none), ([(15, some 8)], none)] (by kernel_rfl) 59 rfl (by kernel_rfl) (by kernel_rfl) ?_
  apply go_val pre_kept
  · rintro ρ wr ⟨hg, hn, hc, hf, hgl⟩
    simp only [Need, fat, List.nil_append, List.cons_append, List.getD_cons_zero, List.getD_cons_succ, Fct.hold, and_true] at hn
    refine ⟨by simp [wantP, hn], ?_⟩
    simp [execOp, hn, hc, go_sem]
    exact rfl
  apply go_val pre_kept
  · rintro ρ wr ⟨hg, hn, hc, hf, hgl⟩
    simp only [Need, fat, List.nil_append, List.cons_append, List.getD_cons_zero, List.getD_cons_succ, Fct.hold, and_true] at hn
    refine ⟨by simp [wantP, hn], ?_⟩
    simp [execOp, hn, hc, go_sem]
    exact rfl
  apply go_val pre_kept
  · rintro ρ wr ⟨hg, hn, hc, hf, hgl⟩
    simp only [Need, fat, List.nil_append, List.cons_append, List.getD_cons_zero, List.getD_cons_succ, Fct.hold, and_true] at hn
    refine ⟨by simp [wantP, hn], ?_⟩
    simp [execOp, hn, hc, go_sem]
    exact rfl
  apply go_val pre_kept
  · rintro ρ wr ⟨hg, hn, hc, hf, hgl⟩
    simp only [Need, fat, List.nil_append, List.cons_append, List.getD_cons_zero, List.getD_cons_succ, Fct.hold, and_true] at hn
    have hl := And.intro (hg.cell b0) (hg.cell b1)
    refine ⟨by simp [wantP, hn], ?_⟩
    simp [execOp, hn, hc, hl, go_sem]
    exact rfl
  apply go_val pre_kept
  · rintro ρ wr ⟨hg, hn, hc, hf, hgl⟩
    simp only [Need, fat, List.nil_append, List.cons_append, List.getD_cons_zero, List.getD_cons_succ, Fct.hold, and_true] at hn
    refine ⟨by simp [wantP, hn], ?_⟩
    simp [execOp, hn, hc, go_sem]
    exact rfl
  apply go_val pre_kept
  · rintro ρ wr ⟨hg, hn, hc, hf, hgl⟩
    simp only [Need, fat, List.nil_append, List.cons_append, List.getD_cons_zero, List.getD_cons_succ, Fct.hold, and_true] at hn
    refine ⟨by simp [wantP, hn], ?_⟩
    simp [execOp, hn, hc, go_sem]
    exact rfl
  apply go_val pre_kept
  · rintro ρ wr ⟨hg, hn, hc, hf, hgl⟩
    simp only [Need, fat, List.nil_append, List.cons_append, List.getD_cons_zero, List.getD_cons_succ, Fct.hold, and_true] at hn
    refine ⟨by simp [wantP, hn], ?_⟩
    simp [execOp, hn, hc, go_sem]
    exact rfl
  apply go_val pre_kept
  · rintro ρ wr ⟨hg, hn, hc, hf, hgl⟩
    simp only [Need, fat, List.nil_append, List.cons_append, List.getD_cons_zero, List.getD_cons_succ, Fct.hold, and_true] at hn
    have hl := And.intro (hg.cell b0) (hg.cell b1)
    refine ⟨by simp [wantP, hn], ?_⟩
    simp [execOp, hn, hc, hl, go_sem]
    exact rfl
  apply go_val (x := .int .u8 ((40 : Nat) : Int)) pre_kept
  · rintro ρ wr ⟨hg, hn, hc, hf, hgl⟩
    simp only [Need, fat, List.nil_append, List.cons_append, List.getD_cons_zero, List.getD_cons_succ, Fct.hold, and_true] at hn
    refine ⟨by simp [wantP, hn], ?_⟩
    simp [execOp, hn, hc, go_sem, hix, hlt2, hk0]
  apply go_val pre_kept
  · rintro ρ wr ⟨hg, hn, hc, hf, hgl⟩
    simp only [Need, fat, List.nil_append, List.cons_append, List.getD_cons_zero, List.getD_cons_succ, Fct.hold, and_true] at hn
    refine ⟨by simp [wantP, hn], ?_⟩
    simp [execOp, hn, hc, go_sem]
    exact rfl
  intro w2 hk2
  simp only [Post, List.nil_append, List.cons_append, Act.put, List.setIfInBounds_toArray, List.set_cons_zero, List.set_cons_succ]
  rename_i hK
  refine hK _ _ ?_
  clear hK
  replace H := Lib.hid (H.out.drawn hk2)
  clear hk2
  obtain ⟨⟨c0, c1, c2⟩, f0, f1, f2⟩ := H.out.1.cells
  clear b0 b1 c0 c1 c2 f0 f1 f2
  go_wp2_with fail
  refine (HQ.out _ H.out.1).mono ?_
  rintro e w3 ⟨u, rfl, hx, h2, h3⟩
  obtain ⟨o1, s1, A1, n1, p1, rfl⟩ := hx.form
  have HX : Hid (ReAt (w.heap.size + 1 ≤ ·) w3 (re6 o1 s1 (.slice A1 n1 p1)) x) := Lib.hid (hx.weak fun k _ hk => by
    have := (blk_lt (H.out.blk List.mem_cons_self)); omega)
  replace H := Lib.hid (H.out.step h2 h3)
  clear h2 h3 HQ hx
  obtain ⟨⟨d0, d1, d2, d3, d4, d5⟩, g0, g1, g2, g3, g4, g5⟩ := box6 (H.out.blk List.mem_cons_self)
  have HF := Lib.hid (ret_pass H.out HX.out)
  simp only [re6_form] at HF ⊢
  go_wp2_with fail
  refine bodyPost_ret (v := .tuple #[re6 o1 s1 (.slice A1 n1 p1), .int .i64 0]) ?_ rfl ⟨_, rfl, HF.out⟩
  simp [results, Try.results35, go_sem, re6_form, d0, d1, d2, d3, d4, d5]
set_option maxHeartbeats 2000000 in
theorem atom_cls_err (g : Nat) (s : ByteArray) (k op : Nat) (w : World) (h : Rd g s k op w) (_hs : s.size ≤ 200) (hk : k < s.size) (hix : s[k].toNat = 91) (er j : Nat) (_her : 0 < er) (HC : ∀ w, Rd g s k op w → Calls Try.prog 48 #[ptr g] w (RePost g s op (.err er j) w)) : Calls Try.prog 35 #[ptr g] w (RePost g s op (.err er j) w) := by
  have HQ := Lib.hid HC
  clear HC
  unfold RePost at *
  have hlt2 : (k : Int) < s.size := by omega
  have hk0 : (0 : Int) ≤ k := by omega
  have hgl := h.lt
  have H := Lib.hid ((St.start h).alloc (.cells #[.int .i64 0, .int .u64 0, .int .u64 0, .int .u64 0, .int .u64 0, .slice none 0 0] 27))
  obtain ⟨⟨c0, c1, c2⟩, f0, f1, f2⟩ := h.cells
  clear h
  unfold ptr at *
  go_enter Try.func35, Try.ntmps35
  go_wp2_with fail
  obtain ⟨⟨b0, b1, -⟩, -⟩ := H.out.1.cells
  clear c0 c1 c2 f0 f1 f2
  refine wp_region_go Kept pre_kept [([(0, none)], none), ([(7, some 0)], none), ([(8, some 1)], none), ([(9, some 2)], none), ([(0, none)], none), ([(11, some 4)], none), ([(12, some 5)], none), ([(13, some 6)], none), ([(10, some 3), (14, some 7)], none), ([(15, some 8)], none)] (by kernel_rfl) 59 rfl (by kernel_rfl) (by kernel_rfl) ?_
  apply go_val pre_kept
  · rintro ρ wr ⟨hg, hn, hc, hf, hgl⟩
    simp only [Need, fat, List.nil_append, List.cons_append, List.getD_cons_zero, List.getD_cons_succ, Fct.hold, and_true] at hn
    refine ⟨by simp [wantP, hn], ?_⟩
    simp [execOp, hn, hc, go_sem]
    exact rfl
  apply go_val pre_kept
  · rintro ρ wr ⟨hg, hn, hc, hf, hgl⟩
    simp only [Need, fat, List.nil_append, List.cons_append, List.getD_cons_zero, List.getD_cons_succ, Fct.hold, and_true] at hn
    refine ⟨by simp [wantP, hn], ?_⟩
    simp [execOp, hn, hc, go_sem]
    exact rfl
  apply go_val pre_kept
  · rintro ρ wr ⟨hg, hn, hc, hf, hgl⟩
    simp only [Need, fat, List.nil_append, List.cons_append, List.getD_cons_zero, List.getD_cons_succ, Fct.hold, and_true] at hn
    refine ⟨by simp [wantP, hn], ?_⟩
    simp [execOp, hn, hc, go_sem]
    exact rfl
  apply go_val pre_kept
  · rintro ρ wr ⟨hg, hn, hc, hf, hgl⟩
    simp only [Need, fat, List.nil_append, List.cons_append, List.getD_cons_zero, List.getD_cons_succ, Fct.hold, and_true] at hn
    have hl := And.intro (hg.cell b0) (hg.cell b1)
    refine ⟨by simp [wantP, hn], ?_⟩
    simp [execOp, hn, hc, hl, go_sem]
    exact rfl
  apply go_val pre_kept
  · rintro ρ wr ⟨hg, hn, hc, hf, hgl⟩
    simp only [Need, fat, List.nil_append, List.cons_append, List.getD_cons_zero, List.getD_cons_succ, Fct.hold, and_true] at hn
    refine ⟨by simp [wantP, hn], ?_⟩
    simp [execOp, hn, hc, go_sem]
    exact rfl
  apply go_val pre_kept
  · rintro ρ wr ⟨hg, hn, hc, hf, hgl⟩
    simp only [Need, fat, List.nil_append, List.cons_append, List.getD_cons_zero, List.getD_cons_succ, Fct.hold, and_true] at hn
    refine ⟨by simp [wantP, hn], ?_⟩
    simp [execOp, hn, hc, go_sem]
    exact rfl
  apply go_val pre_kept
  · rintro ρ wr ⟨hg, hn, hc, hf, hgl⟩
    simp only [Need, fat, List.nil_append, List.cons_append, List.getD_cons_zero, List.getD_cons_succ, Fct.hold, and_true] at hn
    refine ⟨by simp [wantP, hn], ?_⟩
    simp [execOp, hn, hc, go_sem]
    exact rfl
  apply go_val pre_kept
  · rintro ρ wr ⟨hg, hn, hc, hf, hgl⟩
    simp only [Need, fat, List.nil_append, List.cons_append, List.getD_cons_zero, List.getD_cons_succ, Fct.hold, and_true] at hn
    have hl := And.intro (hg.cell b0) (hg.cell b1)
    refine ⟨by simp [wantP, hn], ?_⟩
    simp [execOp, hn, hc, hl, go_sem]
    exact rfl
  apply go_val (x := .int .u8 ((91 : Nat) : Int)) pre_kept
  · rintro ρ wr ⟨hg, hn, hc, hf, hgl⟩
    simp only [Need, fat, List.nil_append, List.cons_append, List.getD_cons_zero, List.getD_cons_succ, Fct.hold, and_true] at hn
    refine ⟨by simp [wantP, hn], ?_⟩
    simp [execOp, hn, hc, go_sem, hix, hlt2, hk0]
  apply go_val pre_kept
  · rintro ρ wr ⟨hg, hn, hc, hf, hgl⟩
    simp only [Need, fat, List.nil_append, List.cons_append, List.getD_cons_zero, List.getD_cons_succ, Fct.hold, and_true] at hn
    refine ⟨by simp [wantP, hn], ?_⟩
    simp [execOp, hn, hc, go_sem]
    exact rfl
  intro w2 hk2
  simp only [Post, List.nil_append, List.cons_append, Act.put, List.setIfInBounds_toArray, List.set_cons_zero, List.set_cons_succ]
  rename_i hK
  refine hK _ _ ?_
  clear hK
  replace H := Lib.hid (H.out.drawn hk2)
  clear hk2
  obtain ⟨⟨c0, c1, c2⟩, f0, f1, f2⟩ := H.out.1.cells
  clear b0 b1 c0 c1 c2 f0 f1 f2
  go_wp2_with fail
  refine (HQ.out _ H.out.1).mono ?_
  rintro e w3 ⟨rfl, ⟨op', h2⟩, h3⟩
  replace H := Lib.hid (H.out.step h2 h3)
  clear h2 h3 HQ
  unfold zre
  obtain ⟨⟨d0, d1, d2, d3, d4, d5⟩, g0, g1, g2, g3, g4, g5⟩ := box6 (H.out.blk List.mem_cons_self)
  have HF := Lib.hid (ret_re H.out (Nat.le_refl _) (.int .i64 0) (.int .u64 0) (.int .u64 0) (.int .u64 0) (.int .u64 0) (.slice none 0 0))
  go_wp2_with fail
  refine bodyPost_ret (v := .tuple #[zre, .int .i64 er]) ?_ rfl ⟨rfl, ⟨_, HF.out.2.1⟩, HF.out.2.2⟩
  simp [results, Try.results35, go_sem, zre, d0, d1, d2, d3, d4, d5]
set_option maxHeartbeats 2000000 in
theorem atom_cls_ok (g : Nat) (s : ByteArray) (k op : Nat) (w : World) (h : Rd g s k op w) (_hs : s.size ≤ 200) (hk : k < s.size) (hix : s[k].toNat = 91) (x : Re) (j : Nat) (HC : ∀ w, Rd g s k op w → Calls Try.prog 48 #[ptr g] w (RePost g s op (.ok x j) w)) : Calls Try.prog 35 #[ptr g] w (RePost g s op (.ok x j) w) := by
  have HQ := Lib.hid HC
  clear HC
  unfold RePost at *
  have hlt2 : (k : Int) < s.size := by omega
  have hk0 : (0 : Int) ≤ k := by omega
  have hgl := h.lt
  have H := Lib.hid ((St.start h).alloc (.cells #[.int .i64 0, .int .u64 0, .int .u64 0, .int .u64 0, .int .u64 0, .slice none 0 0] 27))
  obtain ⟨⟨c0, c1, c2⟩, f0, f1, f2⟩ := h.cells
  clear h
  unfold ptr at *
  go_enter Try.func35, Try.ntmps35
  go_wp2_with fail
  obtain ⟨⟨b0, b1, -⟩, -⟩ := H.out.1.cells
  clear c0 c1 c2 f0 f1 f2
  refine wp_region_go Kept pre_kept [([(0, none)], none), ([(7, some 0)], none), ([(8, some 1)], none), ([(9, some 2)], none), ([(0, none)], none), ([(11, some 4)], none), ([(12, some 5)], none), ([(13, some 6)], none), ([(10, some 3), (14, some 7)], none), ([(15, some 8)], none)] (by kernel_rfl) 59 rfl (by kernel_rfl) (by kernel_rfl) ?_
  apply go_val pre_kept
  · rintro ρ wr ⟨hg, hn, hc, hf, hgl⟩
    simp only [Need, fat, List.nil_append, List.cons_append, List.getD_cons_zero, List.getD_cons_succ, Fct.hold, and_true] at hn
    refine ⟨by simp [wantP, hn], ?_⟩
    simp [execOp, hn, hc, go_sem]
    exact rfl
  apply go_val pre_kept
  · rintro ρ wr ⟨hg, hn, hc, hf, hgl⟩
    simp only [Need, fat, List.nil_append, List.cons_append, List.getD_cons_zero, List.getD_cons_succ, Fct.hold, and_true] at hn
    refine ⟨by simp [wantP, hn], ?_⟩
    simp [execOp, hn, hc, go_sem]
    exact rfl
  apply go_val pre_kept
  · rintro ρ wr ⟨hg, hn, hc, hf, hgl⟩
    simp only [Need, fat, List.nil_append, List.cons_append, List.getD_cons_zero, List.getD_cons_succ, Fct.hold, and_true] at hn
    refine ⟨by simp [wantP, hn], ?_⟩
    simp [execOp, hn, hc, go_sem]
    exact rfl
  apply go_val pre_kept
  · rintro ρ wr ⟨hg, hn, hc, hf, hgl⟩
    simp only [Need, fat, List.nil_append, List.cons_append, List.getD_cons_zero, List.getD_cons_succ, Fct.hold, and_true] at hn
    have hl := And.intro (hg.cell b0) (hg.cell b1)
    refine ⟨by simp [wantP, hn], ?_⟩
    simp [execOp, hn, hc, hl, go_sem]
    exact rfl
  apply go_val pre_kept
  · rintro ρ wr ⟨hg, hn, hc, hf, hgl⟩
    simp only [Need, fat, List.nil_append, List.cons_append, List.getD_cons_zero, List.getD_cons_succ, Fct.hold, and_true] at hn
    refine ⟨by simp [wantP, hn], ?_⟩
    simp [execOp, hn, hc, go_sem]
    exact rfl
  apply go_val pre_kept
  · rintro ρ wr ⟨hg, hn, hc, hf, hgl⟩
    simp only [Need, fat, List.nil_append, List.cons_append, List.getD_cons_zero, List.getD_cons_succ, Fct.hold, and_true] at hn
    refine ⟨by simp [wantP, hn], ?_⟩
    simp [execOp, hn, hc, go_sem]
    exact rfl
  apply go_val pre_kept
  · rintro ρ wr ⟨hg, hn, hc, hf, hgl⟩
    simp only [Need, fat, List.nil_append, List.cons_append, List.getD_cons_zero, List.getD_cons_succ, Fct.hold, and_true] at hn
    refine ⟨by simp [wantP, hn], ?_⟩
    simp [execOp, hn, hc, go_sem]
    exact rfl
  apply go_val pre_kept
  · rintro ρ wr ⟨hg, hn, hc, hf, hgl⟩
    simp only [Need, fat, List.nil_append, List.cons_append, List.getD_cons_zero, List.getD_cons_succ, Fct.hold, and_true] at hn
    have hl := And.intro (hg.cell b0) (hg.cell b1)
    refine ⟨by simp [wantP, hn], ?_⟩
    simp [execOp, hn, hc, hl, go_sem]
    exact rfl
  apply go_val (x := .int .u8 ((91 : Nat) : Int)) pre_kept
  · rintro ρ wr ⟨hg, hn, hc, hf, hgl⟩
    simp only [Need, fat, List.nil_append, List.cons_append, List.getD_cons_zero, List.getD_cons_succ, Fct.hold, and_true] at hn
    refine ⟨by simp [wantP, hn], ?_⟩
    simp [execOp, hn, hc, go_sem, hix, hlt2, hk0]
  apply go_val pre_kept
  · rintro ρ wr ⟨hg, hn, hc, hf, hgl⟩
    simp only [Need, fat, List.nil_append, List.cons_append, List.getD_cons_zero, List.getD_cons_succ, Fct.hold, and_true] at hn
    refine ⟨by simp [wantP, hn], ?_⟩
    simp [execOp, hn, hc, go_sem]
    exact rfl
  intro w2 hk2
  simp only [Post, List.nil_append, List.cons_append, Act.put, List.setIfInBounds_toArray, List.set_cons_zero, List.set_cons_succ]
  rename_i hK
  refine hK _ _ ?_
  clear hK
  replace H := Lib.hid (H.out.drawn hk2)
  clear hk2
  obtain ⟨⟨c0, c1, c2⟩, f0, f1, f2⟩ := H.out.1.cells
  clear b0 b1 c0 c1 c2 f0 f1 f2
  go_wp2_with fail
  refine (HQ.out _ H.out.1).mono ?_
  rintro e w3 ⟨u, rfl, hx, h2, h3⟩
  obtain ⟨o1, s1, A1, n1, p1, rfl⟩ := hx.form
  have HX : Hid (ReAt (w.heap.size + 1 ≤ ·) w3 (re6 o1 s1 (.slice A1 n1 p1)) x) := Lib.hid (hx.weak fun k _ hk => by
    have := (blk_lt (H.out.blk List.mem_cons_self)); omega)
  replace H := Lib.hid (H.out.step h2 h3)
  clear h2 h3 HQ hx
  obtain ⟨⟨d0, d1, d2, d3, d4, d5⟩, g0, g1, g2, g3, g4, g5⟩ := box6 (H.out.blk List.mem_cons_self)
  have HF := Lib.hid (ret_pass H.out HX.out)
  simp only [re6_form] at HF ⊢
  go_wp2_with fail
  refine bodyPost_ret (v := .tuple #[re6 o1 s1 (.slice A1 n1 p1), .int .i64 0]) ?_ rfl ⟨_, rfl, HF.out⟩
  simp [results, Try.results35, go_sem, re6_form, d0, d1, d2, d3, d4, d5]
set_option maxHeartbeats 2000000 in
theorem atom_dot (g : Nat) (s : ByteArray) (k op : Nat) (w : World) (h : Rd g s k op w) (hs : s.size ≤ 200) (hk : k < s.size) (hix : s[k].toNat = 46) : Calls Try.prog 35 #[ptr g] w (RePost g s op (.ok (.mk 1 dot []) (k + 1)) w) := by
  obtain ⟨k1, hk1⟩ : ∃ k1, k + 1 = k1 := ⟨_, rfl⟩
  rw [hk1]
  have hki : (k : Int) + 1 = k1 := by omega
  have hk1b : k1 ≤ 200 := by omega
  clear hk1
  unfold RePost
  have hlt2 : (k : Int) < s.size := by omega
  have hk0 : (0 : Int) ≤ k := by omega
  have hgl := h.lt
  have H := Lib.hid ((St.start h).alloc (.cells #[.int .i64 0, .int .u64 0, .int .u64 0, .int .u64 0, .int .u64 0, .slice none 0 0] 27))
  obtain ⟨⟨c0, c1, c2⟩, f0, f1, f2⟩ := h.cells
  clear h
  unfold ptr at *
  go_enter Try.func35, Try.ntmps35
  go_wp2_with fail
  obtain ⟨⟨b0, b1, -⟩, -⟩ := H.out.1.cells
  clear c0 c1 c2 f0 f1 f2
  refine wp_region_go Kept pre_kept [([(0, none)], none), ([(7, some 0)], none), ([(8, some 1)], none), ([(9, some 2)], none), ([(0, none)], none), ([(11, some 4)], none), ([(12, some 5)], none), ([(13, some 6)], none), ([(10, some 3), (14, some 7)], none), ([(15, some 8)], none)] (by kernel_rfl) 59 rfl (by kernel_rfl) (by kernel_rfl) ?_
  apply go_val pre_kept
  · rintro ρ wr ⟨hg, hn, hc, hf, hgl⟩
    simp only [Need, fat, List.nil_append, List.cons_append, List.getD_cons_zero, List.getD_cons_succ, Fct.hold, and_true] at hn
    refine ⟨by simp [wantP, hn], ?_⟩
    simp [execOp, hn, hc, go_sem]
    exact rfl
  apply go_val pre_kept
  · rintro ρ wr ⟨hg, hn, hc, hf, hgl⟩
    simp only [Need, fat, List.nil_append, List.cons_append, List.getD_cons_zero, List.getD_cons_succ, Fct.hold, and_true] at hn
    refine ⟨by simp [wantP, hn], ?_⟩
    simp [execOp, hn, hc, go_sem]
    exact rfl
  apply go_val pre_kept
  · rintro ρ wr ⟨hg, hn, hc, hf, hgl⟩
    simp only [Need, fat, List.nil_append, List.cons_append, List.getD_cons_zero, List.getD_cons_succ, Fct.hold, and_true] at hn
    refine ⟨by simp [wantP, hn], ?_⟩
    simp [execOp, hn, hc, go_sem]
    exact rfl
  apply go_val pre_kept
  · rintro ρ wr ⟨hg, hn, hc, hf, hgl⟩
    simp only [Need, fat, List.nil_append, List.cons_append, List.getD_cons_zero, List.getD_cons_succ, Fct.hold, and_true] at hn
    have hl := And.intro (hg.cell b0) (hg.cell b1)
    refine ⟨by simp [wantP, hn], ?_⟩
    simp [execOp, hn, hc, hl, go_sem]
    exact rfl
  apply go_val pre_kept
  · rintro ρ wr ⟨hg, hn, hc, hf, hgl⟩
    simp only [Need, fat, List.nil_append, List.cons_append, List.getD_cons_zero, List.getD_cons_succ, Fct.hold, and_true] at hn
    refine ⟨by simp [wantP, hn], ?_⟩
    simp [execOp, hn, hc, go_sem]
    exact rfl
  apply go_val pre_kept
  · rintro ρ wr ⟨hg, hn, hc, hf, hgl⟩
    simp only [Need, fat, List.nil_append, List.cons_append, List.getD_cons_zero, List.getD_cons_succ, Fct.hold, and_true] at hn
    refine ⟨by simp [wantP, hn], ?_⟩
    simp [execOp, hn, hc, go_sem]
    exact rfl
  apply go_val pre_kept
  · rintro ρ wr ⟨hg, hn, hc, hf, hgl⟩
    simp only [Need, fat, List.nil_append, List.cons_append, List.getD_cons_zero, List.getD_cons_succ, Fct.hold, and_true] at hn
    refine ⟨by simp [wantP, hn], ?_⟩
    simp [execOp, hn, hc, go_sem]
    exact rfl
  apply go_val pre_kept
  · rintro ρ wr ⟨hg, hn, hc, hf, hgl⟩
    simp only [Need, fat, List.nil_append, List.cons_append, List.getD_cons_zero, List.getD_cons_succ, Fct.hold, and_true] at hn
    have hl := And.intro (hg.cell b0) (hg.cell b1)
    refine ⟨by simp [wantP, hn], ?_⟩
    simp [execOp, hn, hc, hl, go_sem]
    exact rfl
  apply go_val (x := .int .u8 ((46 : Nat) : Int)) pre_kept
  · rintro ρ wr ⟨hg, hn, hc, hf, hgl⟩
    simp only [Need, fat, List.nil_append, List.cons_append, List.getD_cons_zero, List.getD_cons_succ, Fct.hold, and_true] at hn
    refine ⟨by simp [wantP, hn], ?_⟩
    simp [execOp, hn, hc, go_sem, hix, hlt2, hk0]
  apply go_val pre_kept
  · rintro ρ wr ⟨hg, hn, hc, hf, hgl⟩
    simp only [Need, fat, List.nil_append, List.cons_append, List.getD_cons_zero, List.getD_cons_succ, Fct.hold, and_true] at hn
    refine ⟨by simp [wantP, hn], ?_⟩
    simp [execOp, hn, hc, go_sem]
    exact rfl
  intro w2 hk2
  simp only [Post, List.nil_append, List.cons_append, Act.put, List.setIfInBounds_toArray, List.set_cons_zero, List.set_cons_succ]
  rename_i hK
  refine hK _ _ ?_
  clear hK
  replace H := Lib.hid (H.out.drawn hk2)
  clear hk2
  obtain ⟨⟨c0, c1, c2⟩, f0, f1, f2⟩ := H.out.1.cells
  clear b0 b1
  have HA := Lib.hid (H.out.at k1)
  go_wp2_with fail
  generalize w2.setCell _ _ = w3 at HA ⊢
  refine (dot_any w3).mono ?_
  rintro e w4 ⟨rfl, h2⟩
  replace H := Lib.hid (HA.out.kept h2)
  clear h2 HA c0 c1 c2 f0 f1 f2
  obtain ⟨⟨d0, d1, d2, d3, d4, d5⟩, g0, g1, g2, g3, g4, g5⟩ := box6 (H.out.blk List.mem_cons_self)
  have HF := Lib.hid (ret_re H.out (Nat.le_refl _) (.int .i64 1) (.int .u64 (wdN dot 0)) (.int .u64 (wdN dot 1)) (.int .u64 (wdN dot 2)) (.int .u64 (wdN dot 3)) (.slice none 0 0))
  unfold set4
  simp only [wd_eq]
  go_wp2_with fail
  refine bodyPost_ret (v := .tuple #[re6 1 dot (.slice none 0 0), .int .i64 0]) ?_ rfl ⟨_, rfl, ReAt.leaf _ _ _ _, HF.out.2⟩
  simp [results, Try.results35, go_sem, re6_form, d0, d1, d2, d3, d4, d5]
set_option maxHeartbeats 2000000 in
theorem atom_mark (g : Nat) (s : ByteArray) (k op : Nat) (w : World) (h : Rd g s k op w) (_hs : s.size ≤ 200) (hk : k < s.size) (c : Nat) (hix : s[k].toNat = c) (n1 : ¬ c = 40) (n2 : ¬ c = 91) (n3 : ¬ c = 46) (hm : 0 ≤ Lib.indexByte [124, 42, 43, 63, 40, 41, 91, 93] c.toUInt8) : Calls Try.prog 35 #[ptr g] w (RePost g s op (.err 2 k) w) := by
  unfold RePost
  have i1 : ¬ (c : Int) = 40 := by omega
  have i2 : ¬ (c : Int) = 91 := by omega
  have i3 : ¬ (c : Int) = 46 := by omega
  have hlt2 : (k : Int) < s.size := by omega
  have hk0 : (0 : Int) ≤ k := by omega
  have hgl := h.lt
  have H := Lib.hid ((St.start h).alloc (.cells #[.int .i64 0, .int .u64 0, .int .u64 0, .int .u64 0, .int .u64 0, .slice none 0 0] 27))
  obtain ⟨⟨c0, c1, c2⟩, f0, f1, f2⟩ := h.cells
  clear h
  unfold ptr at *
  go_enter Try.func35, Try.ntmps35
  go_wp2_with fail
  obtain ⟨⟨b0, b1, -⟩, -⟩ := H.out.1.cells
  clear c0 c1 c2 f0 f1 f2
  refine wp_region_go Kept pre_kept [([(0, none)], none), ([(7, some 0)], none), ([(8, some 1)], none), ([(9, some 2)], none), ([(0, none)], none), ([(11, some 4)], none), ([(12, some 5)], none), ([(13, some 6)], none), ([(10, some 3), (14, some 7)], none), ([(15, some 8)], none)] (by kernel_rfl) 59 rfl (by kernel_rfl) (by kernel_rfl) ?_
  apply go_val pre_kept
  · rintro ρ wr ⟨hg, hn, hc, hf, hgl⟩
    simp only [Need, fat, List.nil_append, List.cons_append, List.getD_cons_zero, List.getD_cons_succ, Fct.hold, and_true] at hn
    refine ⟨by simp [wantP, hn], ?_⟩
    simp [execOp, hn, hc, go_sem]
    exact rfl
  apply go_val pre_kept
  · rintro ρ wr ⟨hg, hn, hc, hf, hgl⟩
    simp only [Need, fat, List.nil_append, List.cons_append, List.getD_cons_zero, List.getD_cons_succ, Fct.hold, and_true] at hn
    refine ⟨by simp [wantP, hn], ?_⟩
    simp [execOp, hn, hc, go_sem]
    exact rfl
  apply go_val pre_kept
  · rintro ρ wr ⟨hg, hn, hc, hf, hgl⟩
    simp only [Need, fat, List.nil_append, List.cons_append, List.getD_cons_zero, List.getD_cons_succ, Fct.hold, and_true] at hn
    refine ⟨by simp [wantP, hn], ?_⟩
    simp [execOp, hn, hc, go_sem]
    exact rfl
  apply go_val pre_kept
  · rintro ρ wr ⟨hg, hn, hc, hf, hgl⟩
    simp only [Need, fat, List.nil_append, List.cons_append, List.getD_cons_zero, List.getD_cons_succ, Fct.hold, and_true] at hn
    have hl := And.intro (hg.cell b0) (hg.cell b1)
    refine ⟨by simp [wantP, hn], ?_⟩
    simp [execOp, hn, hc, hl, go_sem]
    exact rfl
  apply go_val pre_kept
  · rintro ρ wr ⟨hg, hn, hc, hf, hgl⟩
    simp only [Need, fat, List.nil_append, List.cons_append, List.getD_cons_zero, List.getD_cons_succ, Fct.hold, and_true] at hn
    refine ⟨by simp [wantP, hn], ?_⟩
    simp [execOp, hn, hc, go_sem]
    exact rfl
  apply go_val pre_kept
  · rintro ρ wr ⟨hg, hn, hc, hf, hgl⟩
    simp only [Need, fat, List.nil_append, List.cons_append, List.getD_cons_zero, List.getD_cons_succ, Fct.hold, and_true] at hn
    refine ⟨by simp [wantP, hn], ?_⟩
    simp [execOp, hn, hc, go_sem]
    exact rfl
  apply go_val pre_kept
  · rintro ρ wr ⟨hg, hn, hc, hf, hgl⟩
    simp only [Need, fat, List.nil_append, List.cons_append, List.getD_cons_zero, List.getD_cons_succ, Fct.hold, and_true] at hn
    refine ⟨by simp [wantP, hn], ?_⟩
    simp [execOp, hn, hc, go_sem]
    exact rfl
  apply go_val pre_kept
  · rintro ρ wr ⟨hg, hn, hc, hf, hgl⟩
    simp only [Need, fat, List.nil_append, List.cons_append, List.getD_cons_zero, List.getD_cons_succ, Fct.hold, and_true] at hn
    have hl := And.intro (hg.cell b0) (hg.cell b1)
    refine ⟨by simp [wantP, hn], ?_⟩
    simp [execOp, hn, hc, hl, go_sem]
    exact rfl
  apply go_val (x := .int .u8 (c : Int)) pre_kept
  · rintro ρ wr ⟨hg, hn, hc, hf, hgl⟩
    simp only [Need, fat, List.nil_append, List.cons_append, List.getD_cons_zero, List.getD_cons_succ, Fct.hold, and_true] at hn
    refine ⟨by simp [wantP, hn], ?_⟩
    simp [execOp, hn, hc, go_sem, hix, hlt2, hk0]
  apply go_val pre_kept
  · rintro ρ wr ⟨hg, hn, hc, hf, hgl⟩
    simp only [Need, fat, List.nil_append, List.cons_append, List.getD_cons_zero, List.getD_cons_succ, Fct.hold, and_true] at hn
    refine ⟨by simp [wantP, hn], ?_⟩
    simp [execOp, hn, hc, go_sem]
    exact rfl
  intro w2 hk2
  simp only [Post, List.nil_append, List.cons_append, Act.put, List.setIfInBounds_toArray, List.set_cons_zero, List.set_cons_succ]
  rename_i hK
  refine hK _ _ ?_
  clear hK
  replace H := Lib.hid (H.out.drawn hk2)
  clear hk2
  obtain ⟨⟨c0, c1, c2⟩, f0, f1, f2⟩ := H.out.1.cells
  clear b0 b1 c0 c1 c2 f0 f1 f2
  go_wp2_with fail
  refine (index_any _ _ _).mono ?_
  rintro e w3 ⟨rfl, rfl⟩
  simp only [Int.toNat_natCast]
  obtain ⟨z, hz⟩ : ∃ z, Lib.indexByte [124, 42, 43, 63, 40, 41, 91, 93] c.toUInt8 = z := ⟨_, rfl⟩
  rw [hz] at hm ⊢
  clear hz
  obtain ⟨⟨d0, d1, d2, d3, d4, d5⟩, g0, g1, g2, g3, g4, g5⟩ := box6 (H.out.blk List.mem_cons_self)
  have HF := Lib.hid (ret_re H.out (Nat.le_refl _) (.int .i64 0) (.int .u64 0) (.int .u64 0) (.int .u64 0) (.int .u64 0) (.slice none 0 0))
  go_wp2_with fail
  refine bodyPost_ret (v := .tuple #[zre, .int .i64 2]) ?_ rfl ⟨rfl, ⟨_, HF.out.2.1⟩, HF.out.2.2⟩
  simp [results, Try.results35, go_sem, zre, d0, d1, d2, d3, d4, d5]
set_option maxHeartbeats 2000000 in
theorem atom_lit_err (g : Nat) (s : ByteArray) (k op : Nat) (w : World) (h : Rd g s k op w) (hs : s.size ≤ 200) (hk : k < s.size) (c : Nat) (hix : s[k].toNat = c) (n1 : ¬ c = 40) (n2 : ¬ c = 91) (n3 : ¬ c = 46) (hm : ¬ 0 ≤ Lib.indexByte [124, 42, 43, 63, 40, 41, 91, 93] c.toUInt8) (er j : Nat) (her : 0 < er) (hl : litP s k = .err er j) : Calls Try.prog 35 #[ptr g] w (RePost g s op (.err er j) w) := by
  unfold RePost
  have i1 : ¬ (c : Int) = 40 := by omega
  have i2 : ¬ (c : Int) = 91 := by omega
  have i3 : ¬ (c : Int) = 46 := by omega
  have hlt2 : (k : Int) < s.size := by omega
  have hk0 : (0 : Int) ≤ k := by omega
  have hgl := h.lt
  have H := Lib.hid ((St.start h).alloc (.cells #[.int .i64 0, .int .u64 0, .int .u64 0, .int .u64 0, .int .u64 0, .slice none 0 0] 27))
  obtain ⟨⟨c0, c1, c2⟩, f0, f1, f2⟩ := h.cells
  clear h
  unfold ptr at *
  go_enter Try.func35, Try.ntmps35
  go_wp2_with fail
  obtain ⟨⟨b0, b1, -⟩, -⟩ := H.out.1.cells
  clear c0 c1 c2 f0 f1 f2
  refine wp_region_go Kept pre_kept [([(0, none)], none), ([(7, some 0)], none), ([(8, some 1)], none), ([(9, some 2)], none), ([(0, none)], none), ([(11, some 4)], none), ([(12, some 5)], none), ([(13, some 6)], none), ([(10, some 3), (14, some 7)], none), ([(15, some 8)], none)] (by kernel_rfl) 59 rfl (by kernel_rfl) (by kernel_rfl) ?_
  apply go_val pre_kept
  · rintro ρ wr ⟨hg, hn, hc, hf, hgl⟩
    simp only [Need, fat, List.nil_append, List.cons_append, List.getD_cons_zero, List.getD_cons_succ, Fct.hold, and_true] at hn
    refine ⟨by simp [wantP, hn], ?_⟩
    simp [execOp, hn, hc, go_sem]
    exact rfl
  apply go_val pre_kept
  · rintro ρ wr ⟨hg, hn, hc, hf, hgl⟩
    simp only [Need, fat, List.nil_append, List.cons_append, List.getD_cons_zero, List.getD_cons_succ, Fct.hold, and_true] at hn
    refine ⟨by simp [wantP, hn], ?_⟩
    simp [execOp, hn, hc, go_sem]
    exact rfl
  apply go_val pre_kept
  · rintro ρ wr ⟨hg, hn, hc, hf, hgl⟩
    simp only [Need, fat, List.nil_append, List.cons_append, List.getD_cons_zero, List.getD_cons_succ, Fct.hold, and_true] at hn
    refine ⟨by simp [wantP, hn], ?_⟩
    simp [execOp, hn, hc, go_sem]
    exact rfl
  apply go_val pre_kept
  · rintro ρ wr ⟨hg, hn, hc, hf, hgl⟩
    simp only [Need, fat, List.nil_append, List.cons_append, List.getD_cons_zero, List.getD_cons_succ, Fct.hold, and_true] at hn
    have hl := And.intro (hg.cell b0) (hg.cell b1)
    refine ⟨by simp [wantP, hn], ?_⟩
    simp [execOp, hn, hc, hl, go_sem]
    exact rfl
  apply go_val pre_kept
  · rintro ρ wr ⟨hg, hn, hc, hf, hgl⟩
    simp only [Need, fat, List.nil_append, List.cons_append, List.getD_cons_zero, List.getD_cons_succ, Fct.hold, and_true] at hn
    refine ⟨by simp [wantP, hn], ?_⟩
    simp [execOp, hn, hc, go_sem]
    exact rfl
  apply go_val pre_kept
  · rintro ρ wr ⟨hg, hn, hc, hf, hgl⟩
    simp only [Need, fat, List.nil_append, List.cons_append, List.getD_cons_zero, List.getD_cons_succ, Fct.hold, and_true] at hn
    refine ⟨by simp [wantP, hn], ?_⟩
    simp [execOp, hn, hc, go_sem]
    exact rfl
  apply go_val pre_kept
  · rintro ρ wr ⟨hg, hn, hc, hf, hgl⟩
    simp only [Need, fat, List.nil_append, List.cons_append, List.getD_cons_zero, List.getD_cons_succ, Fct.hold, and_true] at hn
    refine ⟨by simp [wantP, hn], ?_⟩
    simp [execOp, hn, hc, go_sem]
    exact rfl
  apply go_val pre_kept
  · rintro ρ wr ⟨hg, hn, hc, hf, hgl⟩
    simp only [Need, fat, List.nil_append, List.cons_append, List.getD_cons_zero, List.getD_cons_succ, Fct.hold, and_true] at hn
    have hl := And.intro (hg.cell b0) (hg.cell b1)
    refine ⟨by simp [wantP, hn], ?_⟩
    simp [execOp, hn, hc, hl, go_sem]
    exact rfl
  apply go_val (x := .int .u8 (c : Int)) pre_kept
  · rintro ρ wr ⟨hg, hn, hc, hf, hgl⟩
    simp only [Need, fat, List.nil_append, List.cons_append, List.getD_cons_zero, List.getD_cons_succ, Fct.hold, and_true] at hn
    refine ⟨by simp [wantP, hn], ?_⟩
    simp [execOp, hn, hc, go_sem, hix, hlt2, hk0]
  apply go_val pre_kept
  · rintro ρ wr ⟨hg, hn, hc, hf, hgl⟩
    simp only [Need, fat, List.nil_append, List.cons_append, List.getD_cons_zero, List.getD_cons_succ, Fct.hold, and_true] at hn
    refine ⟨by simp [wantP, hn], ?_⟩
    simp [execOp, hn, hc, go_sem]
    exact rfl
  intro w2 hk2
  simp only [Post, List.nil_append, List.cons_append, Act.put, List.setIfInBounds_toArray, List.set_cons_zero, List.set_cons_succ]
  rename_i hK
  refine hK _ _ ?_
  clear hK
  replace H := Lib.hid (H.out.drawn hk2)
  clear hk2
  have HL := Lib.hid (literal_any g s k op w2 H.out.1 hs (by omega))
  rw [hl] at HL
  unfold ptr LitPost at HL
  obtain ⟨⟨c0, c1, c2⟩, f0, f1, f2⟩ := H.out.1.cells
  clear b0 b1 c0 c1 c2 f0 f1 f2 hl
  go_wp2_with fail
  refine (index_any _ _ _).mono ?_
  rintro e w3 ⟨rfl, rfl⟩
  simp only [Int.toNat_natCast]
  obtain ⟨z, hz⟩ : ∃ z, Lib.indexByte [124, 42, 43, 63, 40, 41, 91, 93] c.toUInt8 = z := ⟨_, rfl⟩
  rw [hz] at hm ⊢
  clear hz
  go_wp2_with fail
  refine HL.out.mono ?_
  rintro e w4 ⟨rfl, h2, h3⟩
  replace H := Lib.hid (H.out.step h2 h3)
  clear h2 h3 HL
  have her2 : ¬ (er : Int) = 0 := by omega
  obtain ⟨⟨d0, d1, d2, d3, d4, d5⟩, g0, g1, g2, g3, g4, g5⟩ := box6 (H.out.blk List.mem_cons_self)
  have HF := Lib.hid (ret_re H.out (Nat.le_refl _) (.int .i64 0) (.int .u64 0) (.int .u64 0) (.int .u64 0) (.int .u64 0) (.slice none 0 0))
  go_wp2_with fail
  refine bodyPost_ret (v := .tuple #[zre, .int .i64 er]) ?_ rfl ⟨rfl, ⟨_, HF.out.2.1⟩, HF.out.2.2⟩
  simp [results, Try.results35, go_sem, zre, d0, d1, d2, d3, d4, d5]
set_option maxHeartbeats 2000000 in
theorem atom_lit_ok (g : Nat) (s : ByteArray) (k op : Nat) (w : World) (h : Rd g s k op w) (hs : s.size ≤ 200) (hk : k < s.size) (c : Nat) (hix : s[k].toNat = c) (n1 : ¬ c = 40) (n2 : ¬ c = 91) (n3 : ¬ c = 46) (hm : ¬ 0 ≤ Lib.indexByte [124, 42, 43, 63, 40, 41, 91, 93] c.toUInt8) (d : UInt8) (j : Nat) (hl : litP s k = .ok d j) : Calls Try.prog 35 #[ptr g] w (RePost g s op (.ok (.mk 1 (single d) []) j) w) := by
  unfold RePost
  have i1 : ¬ (c : Int) = 40 := by omega
  have i2 : ¬ (c : Int) = 91 := by omega
  have i3 : ¬ (c : Int) = 46 := by omega
  have hlt2 : (k : Int) < s.size := by omega
  have hk0 : (0 : Int) ≤ k := by omega
  have hgl := h.lt
  have H := Lib.hid ((St.start h).alloc (.cells #[.int .i64 0, .int .u64 0, .int .u64 0, .int .u64 0, .int .u64 0, .slice none 0 0] 27))
  obtain ⟨⟨c0, c1, c2⟩, f0, f1, f2⟩ := h.cells
  clear h
  unfold ptr at *
  go_enter Try.func35, Try.ntmps35
  go_wp2_with fail
  obtain ⟨⟨b0, b1, -⟩, -⟩ := H.out.1.cells
  clear c0 c1 c2 f0 f1 f2
  refine wp_region_go Kept pre_kept [([(0, none)], none), ([(7, some 0)], none), ([(8, some 1)], none), ([(9, some 2)], none), ([(0, none)], none), ([(11, some 4)], none), ([(12, some 5)], none), ([(13, some 6)], none), ([(10, some 3), (14, some 7)], none), ([(15, some 8)], none)] (by kernel_rfl) 59 rfl (by kernel_rfl) (by kernel_rfl) ?_
  apply go_val pre_kept
  · rintro ρ wr ⟨hg, hn, hc, hf, hgl⟩
    simp only [Need, fat, List.nil_append, List.cons_append, List.getD_cons_zero, List.getD_cons_succ, Fct.hold, and_true] at hn
    refine ⟨by simp [wantP, hn], ?_⟩
    simp [execOp, hn, hc, go_sem]
    exact rfl
  apply go_val pre_kept
  · rintro ρ wr ⟨hg, hn, hc, hf, hgl⟩
    simp only [Need, fat, List.nil_append, List.cons_append, List.getD_cons_zero, List.getD_cons_succ, Fct.hold, and_true] at hn
    refine ⟨by simp [wantP, hn], ?_⟩
    simp [execOp, hn, hc, go_sem]
    exact rfl
  apply go_val pre_kept
  · rintro ρ wr ⟨hg, hn, hc, hf, hgl⟩
    simp only [Need, fat, List.nil_append, List.cons_append, List.getD_cons_zero, List.getD_cons_succ, Fct.hold, and_true] at hn
    refine ⟨by simp [wantP, hn], ?_⟩
    simp [execOp, hn, hc, go_sem]
    exact rfl
  apply go_val pre_kept
  · rintro ρ wr ⟨hg, hn, hc, hf, hgl⟩
    simp only [Need, fat, List.nil_append, List.cons_append, List.getD_cons_zero, List.getD_cons_succ, Fct.hold, and_true] at hn
    have hl := And.intro (hg.cell b0) (hg.cell b1)
    refine ⟨by simp [wantP, hn], ?_⟩
    simp [execOp, hn, hc, hl, go_sem]
    exact rfl
  apply go_val pre_kept
  · rintro ρ wr ⟨hg, hn, hc, hf, hgl⟩
    simp only [Need, fat, List.nil_append, List.cons_append, List.getD_cons_zero, List.getD_cons_succ, Fct.hold, and_true] at hn
    refine ⟨by simp [wantP, hn], ?_⟩
    simp [execOp, hn, hc, go_sem]
    exact rfl
  apply go_val pre_kept
  · rintro ρ wr ⟨hg, hn, hc, hf, hgl⟩
    simp only [Need, fat, List.nil_append, List.cons_append, List.getD_cons_zero, List.getD_cons_succ, Fct.hold, and_true] at hn
    refine ⟨by simp [wantP, hn], ?_⟩
    simp [execOp, hn, hc, go_sem]
    exact rfl
  apply go_val pre_kept
  · rintro ρ wr ⟨hg, hn, hc, hf, hgl⟩
    simp only [Need, fat, List.nil_append, List.cons_append, List.getD_cons_zero, List.getD_cons_succ, Fct.hold, and_true] at hn
    refine ⟨by simp [wantP, hn], ?_⟩
    simp [execOp, hn, hc, go_sem]
    exact rfl
  apply go_val pre_kept
  · rintro ρ wr ⟨hg, hn, hc, hf, hgl⟩
    simp only [Need, fat, List.nil_append, List.cons_append, List.getD_cons_zero, List.getD_cons_succ, Fct.hold, and_true] at hn
    have hl := And.intro (hg.cell b0) (hg.cell b1)
    refine ⟨by simp [wantP, hn], ?_⟩
    simp [execOp, hn, hc, hl, go_sem]
    exact rfl
  apply go_val (x := .int .u8 (c : Int)) pre_kept
  · rintro ρ wr ⟨hg, hn, hc, hf, hgl⟩
    simp only [Need, fat, List.nil_append, List.cons_append, List.getD_cons_zero, List.getD_cons_succ, Fct.hold, and_true] at hn
    refine ⟨by simp [wantP, hn], ?_⟩
    simp [execOp, hn, hc, go_sem, hix, hlt2, hk0]
  apply go_val pre_kept
  · rintro ρ wr ⟨hg, hn, hc, hf, hgl⟩
    simp only [Need, fat, List.nil_append, List.cons_append, List.getD_cons_zero, List.getD_cons_succ, Fct.hold, and_true] at hn
    refine ⟨by simp [wantP, hn], ?_⟩
    simp [execOp, hn, hc, go_sem]
    exact rfl
  intro w2 hk2
  simp only [Post, List.nil_append, List.cons_append, Act.put, List.setIfInBounds_toArray, List.set_cons_zero, List.set_cons_succ]
  rename_i hK
  refine hK _ _ ?_
  clear hK
  replace H := Lib.hid (H.out.drawn hk2)
  clear hk2
  have HL := Lib.hid (literal_any g s k op w2 H.out.1 hs (by omega))
  rw [hl] at HL
  unfold ptr LitPost at HL
  obtain ⟨⟨c0, c1, c2⟩, f0, f1, f2⟩ := H.out.1.cells
  clear b0 b1 c0 c1 c2 f0 f1 f2 hl
  go_wp2_with fail
  refine (index_any _ _ _).mono ?_
  rintro e w3 ⟨rfl, rfl⟩
  simp only [Int.toNat_natCast]
  obtain ⟨z, hz⟩ : ∃ z, Lib.indexByte [124, 42, 43, 63, 40, 41, 91, 93] c.toUInt8 = z := ⟨_, rfl⟩
  rw [hz] at hm ⊢
  clear hz
  go_wp2_with fail
  refine HL.out.mono ?_
  rintro e w4 ⟨rfl, h2, h3⟩
  replace H := Lib.hid (H.out.step h2 h3)
  clear h2 h3 HL
  have hd := d.toNat_lt
  go_wp2_with fail
  refine (single_any d.toNat (by omega) w4).mono ?_
  rintro e w5 ⟨rfl, h2⟩
  replace H := Lib.hid (H.out.kept h2)
  clear h2
  have e : putN 0#256 d.toNat 1 = single d := by unfold single putR; rw [show d.toNat + 1 - d.toNat = 1 from by omega]
  rw [e]
  clear e
  obtain ⟨⟨d0, d1, d2, d3, d4, d5⟩, g0, g1, g2, g3, g4, g5⟩ := box6 (H.out.blk List.mem_cons_self)
  have HF := Lib.hid (ret_re H.out (Nat.le_refl _) (.int .i64 1) (.int .u64 (wdN (single d) 0)) (.int .u64 (wdN (single d) 1)) (.int .u64 (wdN (single d) 2)) (.int .u64 (wdN (single d) 3)) (.slice none 0 0))
  unfold set4
  simp only [wd_eq]
  go_wp2_with fail
  refine bodyPost_ret (v := .tuple #[re6 1 (single d) (.slice none 0 0), .int .i64 0]) ?_ rfl ⟨_, rfl, ReAt.leaf _ _ _ _, HF.out.2⟩
  simp [results, Try.results35, go_sem, re6_form, d0, d1, d2, d3, d4, d5]
theorem atom_any (g : Nat) (s : ByteArray) (k op : Nat) (G : Nat → Res Re) (w : World) (h : Rd g s k op w) (hs : s.size ≤ 200) (hk : k < s.size) (hg : Fw s k (G k))
    (HC : ∀ w, Rd g s k op w → Calls Try.prog 47 #[ptr g] w (RePost g s op (G k) w)) : Calls Try.prog 35 #[ptr g] w (RePost g s op (atomP G s k) w) := by
  unfold atomP
  rw [byteAt_some hk]
  have e1 : ∀ d : UInt8, (s[k] = d) = (s[k].toNat = d.toNat) := fun d => propext UInt8.toNat_inj.symm
  simp only
  by_cases h1 : s[k] = 40
  · rw [if_pos h1]
    rw [e1] at h1
    cases hR : G k with
    | err er j => rw [hR] at hg HC; exact atom_grp_err g s k op w h hs hk h1 er j hg.1 HC
    | ok x j => rw [hR] at HC; exact atom_grp_ok g s k op w h hs hk h1 x j HC
  rw [if_neg h1]
  by_cases h2 : s[k] = 91
  · rw [if_pos h2]
    rw [e1] at h2
    have hc := classP_fw s k hk
    cases hR : classP s k with
    | err er j => rw [hR] at hc; exact atom_cls_err g s k op w h hs hk h2 er j hc.1 (fun w' h' => by rw [← hR]; exact class_any g s k op w' h' hs hk)
    | ok x j => exact atom_cls_ok g s k op w h hs hk h2 x j (fun w' h' => by rw [← hR]; exact class_any g s k op w' h' hs hk)
  rw [if_neg h2]
  by_cases h3 : s[k] = 46
  · rw [if_pos h3]
    rw [e1] at h3
    exact atom_dot g s k op w h hs hk h3
  rw [if_neg h3]
  rw [e1] at h1 h2 h3
  have hm := mark_ge s[k]
  have hu : s[k].toNat.toUInt8 = s[k] := by simp
  by_cases h4 : marks.contains s[k] = true
  · rw [if_pos h4]
    exact atom_mark g s k op w h hs hk _ rfl h1 h2 h3 (by rw [hu, hm]; exact h4)
  · rw [if_neg h4]
    have hl := litP_fw s k (by omega)
    cases hR : litP s k with
    | err er j => rw [hR] at hl; exact atom_lit_err g s k op w h hs hk _ rfl h1 h2 h3 (by rw [hu, hm]; exact h4) er j hl.1 hR
    | ok d j => exact atom_lit_ok g s k op w h hs hk _ rfl h1 h2 h3 (by rw [hu, hm]; exact h4) d j hR
end Go.Proofs.Ytpnmcinbohdmhaa
