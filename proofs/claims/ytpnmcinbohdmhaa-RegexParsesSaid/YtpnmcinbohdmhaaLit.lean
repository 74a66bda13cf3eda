/-
  What regex.literal reads. Conditions: the text is no longer than 200 bytes, and the reader stands within it.
-/
import Derived.Test.YtpnmcinbohdmhaaSees
set_option linter.unusedSimpArgs false
namespace Go.Proofs.Ytpnmcinbohdmhaa
open Go Go.RowKit Kit
def LitPost (g : Nat) (s : ByteArray) (op : Nat) (r : Res UInt8) (w : World) (e : Ending) (w' : World) : Prop :=
  match r with
  | .ok c j => e = .returned (.tuple #[.int .u8 c.toNat, .int .i64 0]) ∧ Rd g s j op w' ∧ Gr g w w'
  | .err er j => e = .returned (.tuple #[.int .u8 0, .int .i64 er]) ∧ Rd g s j op w' ∧ Gr g w w'
set_option maxHeartbeats 2000000 in
theorem literal_true_end (g : Nat) (s : ByteArray) (k op : Nat) (w : World) (h : Rd g s k op w) (hs : s.size ≤ 200) (hk : k ≤ s.size) (hb : (byteAt s k == some 92) = true) (hlt : ¬ k + 1 < s.size) : Calls Try.prog 50 #[ptr g] w (LitPost g s op (.err 2 (k + 1)) w) := by
  have HS := Lib.hid (sees_any g s k op 92 w h)
  rw [hb] at HS
  have HR := Lib.hid h
  clear h
  have hklt : k < s.size := byteAt_lt (beq_iff_eq.1 hb)
  unfold ptr LitPost at *
  clear hb
  go_enter Try.func50, Try.ntmps50
  go_wp2_with fail
  refine HS.out.mono ?_
  rintro e w1 ⟨rfl, hk1⟩
  have H1 := Lib.hid (And.intro (HR.out.kept hk1) (hk1.gr g))
  obtain ⟨⟨c0, c1, -⟩, f0, f1, -⟩ := H1.out.1.cells
  clear hk1 HR HS
  go_wp2_with fail
  have H2 := Lib.hid (And.intro (H1.out.1.at (k + 1)) (H1.out.2.set (p := ⟨g, 1, none⟩) (.inl rfl) (.int .i64 ((k + 1 : Nat) : Int))))
  clear c0 c1 f0 f1 H1
  rw [show ((k : Int) + 1) = ((k + 1 : Nat) : Int) from rfl]
  generalize w1.setCell _ _ = w3 at H2 ⊢
  generalize hkk : k + 1 = j at H2 hlt ⊢
  obtain ⟨⟨c0, c1, -⟩, f0, f1, -⟩ := H2.out.1.cells
  have heq : j = s.size := by omega
  have heq2 : (j : Int) = s.size := by omega
  try go_wp2_with fail
  refine wp_region_go Kept pre_kept [([(0, none)], none), ([(14, some 0)], none), ([(15, some 1)], none), ([(16, some 2)], none), ([(0, none)], none), ([(18, some 4)], none), ([(19, some 5)], none), ([(20, some 6)], none), ([(21, some 7)], none), ([(17, some 3), (22, some 8)], none)] (by kernel_rfl) 41 rfl (by kernel_rfl) (by kernel_rfl) ?_
  apply go_val pre_kept
  · rintro ρ wr ⟨hg, hn, hc, hf, hgl⟩
    simp only [Need, fat, List.nil_append, List.cons_append, List.getD_cons_zero, List.getD_cons_succ, Fct.hold, and_true] at hn
    refine ⟨by simp [wantP, hn], ?_⟩
    simp [execOp, hn, hc, go_sem]
    exact rfl
  apply go_val pre_kept
  · rintro ρ wr ⟨hg, hn, hc, hf, hgl⟩
    simp only [Need, fat, List.nil_append, List.cons_append, List.getD_cons_zero, List.getD_cons_succ, Fct.hold, and_true] at hn
    refine ⟨by simp [wantP, hn], ?_⟩
    simp [execOp, hn, hc, go_sem]
    exact rfl
  apply go_val pre_kept
  · rintro ρ wr ⟨hg, hn, hc, hf, hgl⟩
    simp only [Need, fat, List.nil_append, List.cons_append, List.getD_cons_zero, List.getD_cons_succ, Fct.hold, and_true] at hn
    refine ⟨by simp [wantP, hn], ?_⟩
    simp [execOp, hn, hc, go_sem]
    exact rfl
  apply go_val pre_kept
  · rintro ρ wr ⟨hg, hn, hc, hf, hgl⟩
    simp only [Need, fat, List.nil_append, List.cons_append, List.getD_cons_zero, List.getD_cons_succ, Fct.hold, and_true] at hn
    have hl := And.intro (hg.cell c0) (hg.cell c1)
    refine ⟨by simp [wantP, hn], ?_⟩
    simp [execOp, hn, hc, hl, go_sem]
    exact rfl
  apply go_val pre_kept
  · rintro ρ wr ⟨hg, hn, hc, hf, hgl⟩
    simp only [Need, fat, List.nil_append, List.cons_append, List.getD_cons_zero, List.getD_cons_succ, Fct.hold, and_true] at hn
    refine ⟨by simp [wantP, hn], ?_⟩
    simp [execOp, hn, hc, go_sem]
    exact rfl
  apply go_val pre_kept
  · rintro ρ wr ⟨hg, hn, hc, hf, hgl⟩
    simp only [Need, fat, List.nil_append, List.cons_append, List.getD_cons_zero, List.getD_cons_succ, Fct.hold, and_true] at hn
    refine ⟨by simp [wantP, hn], ?_⟩
    simp [execOp, hn, hc, go_sem]
    exact rfl
  apply go_val pre_kept
  · rintro ρ wr ⟨hg, hn, hc, hf, hgl⟩
    simp only [Need, fat, List.nil_append, List.cons_append, List.getD_cons_zero, List.getD_cons_succ, Fct.hold, and_true] at hn
    refine ⟨by simp [wantP, hn], ?_⟩
    simp [execOp, hn, hc, go_sem]
    exact rfl
  apply go_val pre_kept
  · rintro ρ wr ⟨hg, hn, hc, hf, hgl⟩
    simp only [Need, fat, List.nil_append, List.cons_append, List.getD_cons_zero, List.getD_cons_succ, Fct.hold, and_true] at hn
    have hl := And.intro (hg.cell c0) (hg.cell c1)
    refine ⟨by simp [wantP, hn], ?_⟩
    simp [execOp, hn, hc, hl, go_sem]
    exact rfl
  apply go_val pre_kept
  · rintro ρ wr ⟨hg, hn, hc, hf, hgl⟩
    simp only [Need, fat, List.nil_append, List.cons_append, List.getD_cons_zero, List.getD_cons_succ, Fct.hold, and_true] at hn
    refine ⟨by simp [wantP, hn], ?_⟩
    simp [execOp, hn, hc, go_sem]
    exact rfl
  apply go_val (x := .bool true) pre_kept
  · rintro ρ wr ⟨hg, hn, hc, hf, hgl⟩
    simp only [Need, fat, List.nil_append, List.cons_append, List.getD_cons_zero, List.getD_cons_succ, Fct.hold, and_true] at hn
    refine ⟨by simp [wantP, hn], ?_⟩
    simp [execOp, hn, hc, go_sem, heq]
  intro w4 hk4
  simp only [Post, List.nil_append, List.cons_append, Act.put, List.setIfInBounds_toArray, List.set_cons_zero, List.set_cons_succ]
  rename_i hK
  refine hK _ _ ?_
  clear hK
  have H4 := Lib.hid (And.intro (H2.out.1.kept ((Kept.drew (Kept.refl _)).trans hk4)) (H2.out.2.trans (((Kept.drew (Kept.refl _)).trans hk4).gr g)))
  clear c0 c1 f0 f1 H2 hk4
  obtain ⟨⟨c0, c1, -⟩, f0, f1, -⟩ := H4.out.1.cells
  go_wp2_with fail
  go_ret2
  subst hkk
  exact ⟨rfl, H4.out⟩
set_option maxHeartbeats 2000000 in
theorem literal_true_in (g : Nat) (s : ByteArray) (k op : Nat) (w : World) (h : Rd g s k op w) (hs : s.size ≤ 200) (_hk : k ≤ s.size) (hb : (byteAt s k == some 92) = true) (hlt : k + 1 < s.size) : Calls Try.prog 50 #[ptr g] w (LitPost g s op (.ok s[k + 1] (k + 1 + 1)) w) := by
  have HS := Lib.hid (sees_any g s k op 92 w h)
  rw [hb] at HS
  have HR := Lib.hid h
  clear h
  have hklt : k < s.size := byteAt_lt (beq_iff_eq.1 hb)
  unfold ptr LitPost at *
  clear hb
  go_enter Try.func50, Try.ntmps50
  go_wp2_with fail
  refine HS.out.mono ?_
  rintro e w1 ⟨rfl, hk1⟩
  have H1 := Lib.hid (And.intro (HR.out.kept hk1) (hk1.gr g))
  obtain ⟨⟨c0, c1, -⟩, f0, f1, -⟩ := H1.out.1.cells
  clear hk1 HR HS
  go_wp2_with fail
  have H2 := Lib.hid (And.intro (H1.out.1.at (k + 1)) (H1.out.2.set (p := ⟨g, 1, none⟩) (.inl rfl) (.int .i64 ((k + 1 : Nat) : Int))))
  clear c0 c1 f0 f1 H1
  rw [show ((k : Int) + 1) = ((k + 1 : Nat) : Int) from rfl]
  generalize w1.setCell _ _ = w3 at H2 ⊢
  generalize hkk : k + 1 = j at H2 hlt ⊢
  obtain ⟨⟨c0, c1, -⟩, f0, f1, -⟩ := H2.out.1.cells
  obtain ⟨x, hix⟩ : ∃ x : Nat, s[j].toNat = x := ⟨_, rfl⟩
  have heq : ¬ (j : Int) = s.size := by omega
  have hlt2 : (j : Int) < s.size := by omega
  have hk0 : (0 : Int) ≤ j := by omega
  try go_wp2_with fail
  refine wp_region_go Kept pre_kept [([(0, none)], none), ([(14, some 0)], none), ([(15, some 1)], none), ([(16, some 2)], none), ([(0, none)], none), ([(18, some 4)], none), ([(19, some 5)], none), ([(20, some 6)], none), ([(21, some 7)], none), ([(17, some 3), (22, some 8)], none)] (by kernel_rfl) 41 rfl (by kernel_rfl) (by kernel_rfl) ?_
  apply go_val pre_kept
  · rintro ρ wr ⟨hg, hn, hc, hf, hgl⟩
    simp only [Need, fat, List.nil_append, List.cons_append, List.getD_cons_zero, List.getD_cons_succ, Fct.hold, and_true] at hn
    refine ⟨by simp [wantP, hn], ?_⟩
    simp [execOp, hn, hc, go_sem]
    exact rfl
  apply go_val pre_kept
  · rintro ρ wr ⟨hg, hn, hc, hf, hgl⟩
    simp only [Need, fat, List.nil_append, List.cons_append, List.getD_cons_zero, List.getD_cons_succ, Fct.hold, and_true] at hn
    refine ⟨by simp [wantP, hn], ?_⟩
    simp [execOp, hn, hc, go_sem]
    exact rfl
  apply go_val pre_kept
  · rintro ρ wr ⟨hg, hn, hc, hf, hgl⟩
    simp only [Need, fat, List.nil_append, List.cons_append, List.getD_cons_zero, List.getD_cons_succ, Fct.hold, and_true] at hn
    refine ⟨by simp [wantP, hn], ?_⟩
    simp [execOp, hn, hc, go_sem]
    exact rfl
  apply go_val pre_kept
  · rintro ρ wr ⟨hg, hn, hc, hf, hgl⟩
    simp only [Need, fat, List.nil_append, List.cons_append, List.getD_cons_zero, List.getD_cons_succ, Fct.hold, and_true] at hn
    have hl := And.intro (hg.cell c0) (hg.cell c1)
    refine ⟨by simp [wantP, hn], ?_⟩
    simp [execOp, hn, hc, hl, go_sem]
    exact rfl
  apply go_val pre_kept
  · rintro ρ wr ⟨hg, hn, hc, hf, hgl⟩
    simp only [Need, fat, List.nil_append, List.cons_append, List.getD_cons_zero, List.getD_cons_succ, Fct.hold, and_true] at hn
    refine ⟨by simp [wantP, hn], ?_⟩
    simp [execOp, hn, hc, go_sem]
    exact rfl
  apply go_val pre_kept
  · rintro ρ wr ⟨hg, hn, hc, hf, hgl⟩
    simp only [Need, fat, List.nil_append, List.cons_append, List.getD_cons_zero, List.getD_cons_succ, Fct.hold, and_true] at hn
    refine ⟨by simp [wantP, hn], ?_⟩
    simp [execOp, hn, hc, go_sem]
    exact rfl
  apply go_val pre_kept
  · rintro ρ wr ⟨hg, hn, hc, hf, hgl⟩
    simp only [Need, fat, List.nil_append, List.cons_append, List.getD_cons_zero, List.getD_cons_succ, Fct.hold, and_true] at hn
    refine ⟨by simp [wantP, hn], ?_⟩
    simp [execOp, hn, hc, go_sem]
    exact rfl
  apply go_val pre_kept
  · rintro ρ wr ⟨hg, hn, hc, hf, hgl⟩
    simp only [Need, fat, List.nil_append, List.cons_append, List.getD_cons_zero, List.getD_cons_succ, Fct.hold, and_true] at hn
    have hl := And.intro (hg.cell c0) (hg.cell c1)
    refine ⟨by simp [wantP, hn], ?_⟩
    simp [execOp, hn, hc, hl, go_sem]
    exact rfl
  apply go_val pre_kept
  · rintro ρ wr ⟨hg, hn, hc, hf, hgl⟩
    simp only [Need, fat, List.nil_append, List.cons_append, List.getD_cons_zero, List.getD_cons_succ, Fct.hold, and_true] at hn
    refine ⟨by simp [wantP, hn], ?_⟩
    simp [execOp, hn, hc, go_sem]
    exact rfl
  apply go_val (x := .bool false) pre_kept
  · rintro ρ wr ⟨hg, hn, hc, hf, hgl⟩
    simp only [Need, fat, List.nil_append, List.cons_append, List.getD_cons_zero, List.getD_cons_succ, Fct.hold, and_true] at hn
    refine ⟨by simp [wantP, hn], ?_⟩
    simp [execOp, hn, hc, go_sem, heq]
  intro w4 hk4
  simp only [Post, List.nil_append, List.cons_append, Act.put, List.setIfInBounds_toArray, List.set_cons_zero, List.set_cons_succ]
  rename_i hK
  refine hK _ _ ?_
  clear hK
  have H4 := Lib.hid (And.intro (H2.out.1.kept ((Kept.drew (Kept.refl _)).trans hk4)) (H2.out.2.trans (((Kept.drew (Kept.refl _)).trans hk4).gr g)))
  clear c0 c1 f0 f1 H2 hk4
  obtain ⟨⟨c0, c1, -⟩, f0, f1, -⟩ := H4.out.1.cells
  go_wp2_with fail
  refine wp_region_go Kept pre_kept [([(0, none)], none), ([(24, some 0)], none), ([(25, some 1)], none), ([(26, some 2)], none), ([(0, none)], none), ([(28, some 4)], none), ([(29, some 5)], none), ([(30, some 6)], none), ([(27, some 3), (31, some 7)], none), ([(32, some 8)], none)] (by kernel_rfl) 41 rfl (by kernel_rfl) (by kernel_rfl) ?_
  apply go_val pre_kept
  · rintro ρ wr ⟨hg, hn, hc, hf, hgl⟩
    simp only [Need, fat, List.nil_append, List.cons_append, List.getD_cons_zero, List.getD_cons_succ, Fct.hold, and_true] at hn
    refine ⟨by simp [wantP, hn], ?_⟩
    simp [execOp, hn, hc, go_sem]
    exact rfl
  apply go_val pre_kept
  · rintro ρ wr ⟨hg, hn, hc, hf, hgl⟩
    simp only [Need, fat, List.nil_append, List.cons_append, List.getD_cons_zero, List.getD_cons_succ, Fct.hold, and_true] at hn
    refine ⟨by simp [wantP, hn], ?_⟩
    simp [execOp, hn, hc, go_sem]
    exact rfl
  apply go_val pre_kept
  · rintro ρ wr ⟨hg, hn, hc, hf, hgl⟩
    simp only [Need, fat, List.nil_append, List.cons_append, List.getD_cons_zero, List.getD_cons_succ, Fct.hold, and_true] at hn
    refine ⟨by simp [wantP, hn], ?_⟩
    simp [execOp, hn, hc, go_sem]
    exact rfl
  apply go_val pre_kept
  · rintro ρ wr ⟨hg, hn, hc, hf, hgl⟩
    simp only [Need, fat, List.nil_append, List.cons_append, List.getD_cons_zero, List.getD_cons_succ, Fct.hold, and_true] at hn
    have hl := And.intro (hg.cell c0) (hg.cell c1)
    refine ⟨by simp [wantP, hn], ?_⟩
    simp [execOp, hn, hc, hl, go_sem]
    exact rfl
  apply go_val pre_kept
  · rintro ρ wr ⟨hg, hn, hc, hf, hgl⟩
    simp only [Need, fat, List.nil_append, List.cons_append, List.getD_cons_zero, List.getD_cons_succ, Fct.hold, and_true] at hn
    refine ⟨by simp [wantP, hn], ?_⟩
    simp [execOp, hn, hc, go_sem]
    exact rfl
  apply go_val pre_kept
  · rintro ρ wr ⟨hg, hn, hc, hf, hgl⟩
    simp only [Need, fat, List.nil_append, List.cons_append, List.getD_cons_zero, List.getD_cons_succ, Fct.hold, and_true] at hn
    refine ⟨by simp [wantP, hn], ?_⟩
    simp [execOp, hn, hc, go_sem]
    exact rfl
  apply go_val pre_kept
  · rintro ρ wr ⟨hg, hn, hc, hf, hgl⟩
    simp only [Need, fat, List.nil_append, List.cons_append, List.getD_cons_zero, List.getD_cons_succ, Fct.hold, and_true] at hn
    refine ⟨by simp [wantP, hn], ?_⟩
    simp [execOp, hn, hc, go_sem]
    exact rfl
  apply go_val pre_kept
  · rintro ρ wr ⟨hg, hn, hc, hf, hgl⟩
    simp only [Need, fat, List.nil_append, List.cons_append, List.getD_cons_zero, List.getD_cons_succ, Fct.hold, and_true] at hn
    have hl := And.intro (hg.cell c0) (hg.cell c1)
    refine ⟨by simp [wantP, hn], ?_⟩
    simp [execOp, hn, hc, hl, go_sem]
    exact rfl
  apply go_val (x := .int .u8 (x : Int)) pre_kept
  · rintro ρ wr ⟨hg, hn, hc, hf, hgl⟩
    simp only [Need, fat, List.nil_append, List.cons_append, List.getD_cons_zero, List.getD_cons_succ, Fct.hold, and_true] at hn
    refine ⟨by simp [wantP, hn], ?_⟩
    simp [execOp, hn, hc, go_sem, hix, hlt2, hk0]
  apply go_val pre_kept
  · rintro ρ wr ⟨hg, hn, hc, hf, hgl⟩
    simp only [Need, fat, List.nil_append, List.cons_append, List.getD_cons_zero, List.getD_cons_succ, Fct.hold, and_true] at hn
    refine ⟨by simp [wantP, hn], ?_⟩
    simp [execOp, hn, hc, go_sem]
    exact rfl
  intro w5 hk5
  simp only [Post, List.nil_append, List.cons_append, Act.put, List.setIfInBounds_toArray, List.set_cons_zero, List.set_cons_succ]
  rename_i hK
  refine hK _ _ ?_
  clear hK
  have H5 := Lib.hid (And.intro (H4.out.1.kept ((Kept.drew (Kept.refl _)).trans hk5)) (H4.out.2.trans (((Kept.drew (Kept.refl _)).trans hk5).gr g)))
  clear c0 c1 f0 f1 H4 hk5
  obtain ⟨⟨c0, c1, -⟩, f0, f1, -⟩ := H5.out.1.cells
  go_wp2_with fail
  go_ret2
  subst hkk
  exact ⟨by rw [hix]; rfl, H5.out.1.at (_ + 1), H5.out.2.set (.inl rfl) _⟩
set_option maxHeartbeats 2000000 in
theorem literal_false_end (g : Nat) (s : ByteArray) (k op : Nat) (w : World) (h : Rd g s k op w) (_hs : s.size ≤ 200) (hk : k ≤ s.size) (hb : (byteAt s k == some 92) = false) (hlt : ¬ k < s.size) : Calls Try.prog 50 #[ptr g] w (LitPost g s op (.err 2 (k)) w) := by
  have HS := Lib.hid (sees_any g s k op 92 w h)
  rw [hb] at HS
  have HR := Lib.hid h
  clear h
  unfold ptr LitPost at *
  clear hb
  go_enter Try.func50, Try.ntmps50
  go_wp2_with fail
  refine HS.out.mono ?_
  rintro e w1 ⟨rfl, hk1⟩
  have H1 := Lib.hid (And.intro (HR.out.kept hk1) (hk1.gr g))
  obtain ⟨⟨c0, c1, -⟩, f0, f1, -⟩ := H1.out.1.cells
  clear hk1 HR HS
  go_wp2_with fail
  have H2 := H1
  clear H1
  generalize hkk : k = j at H2 hlt c1 ⊢
  have heq : j = s.size := by omega
  have heq2 : (j : Int) = s.size := by omega
  try go_wp2_with fail
  refine wp_region_go Kept pre_kept [([(0, none)], none), ([(14, some 0)], none), ([(15, some 1)], none), ([(16, some 2)], none), ([(0, none)], none), ([(18, some 4)], none), ([(19, some 5)], none), ([(20, some 6)], none), ([(21, some 7)], none), ([(17, some 3), (22, some 8)], none)] (by kernel_rfl) 41 rfl (by kernel_rfl) (by kernel_rfl) ?_
  apply go_val pre_kept
  · rintro ρ wr ⟨hg, hn, hc, hf, hgl⟩
    simp only [Need, fat, List.nil_append, List.cons_append, List.getD_cons_zero, List.getD_cons_succ, Fct.hold, and_true] at hn
    refine ⟨by simp [wantP, hn], ?_⟩
    simp [execOp, hn, hc, go_sem]
    exact rfl
  apply go_val pre_kept
  · rintro ρ wr ⟨hg, hn, hc, hf, hgl⟩
    simp only [Need, fat, List.nil_append, List.cons_append, List.getD_cons_zero, List.getD_cons_succ, Fct.hold, and_true] at hn
    refine ⟨by simp [wantP, hn], ?_⟩
    simp [execOp, hn, hc, go_sem]
    exact rfl
  apply go_val pre_kept
  · rintro ρ wr ⟨hg, hn, hc, hf, hgl⟩
    simp only [Need, fat, List.nil_append, List.cons_append, List.getD_cons_zero, List.getD_cons_succ, Fct.hold, and_true] at hn
    refine ⟨by simp [wantP, hn], ?_⟩
    simp [execOp, hn, hc, go_sem]
    exact rfl
  apply go_val pre_kept
  · rintro ρ wr ⟨hg, hn, hc, hf, hgl⟩
    simp only [Need, fat, List.nil_append, List.cons_append, List.getD_cons_zero, List.getD_cons_succ, Fct.hold, and_true] at hn
    have hl := And.intro (hg.cell c0) (hg.cell c1)
    refine ⟨by simp [wantP, hn], ?_⟩
    simp [execOp, hn, hc, hl, go_sem]
    exact rfl
  apply go_val pre_kept
  · rintro ρ wr ⟨hg, hn, hc, hf, hgl⟩
    simp only [Need, fat, List.nil_append, List.cons_append, List.getD_cons_zero, List.getD_cons_succ, Fct.hold, and_true] at hn
    refine ⟨by simp [wantP, hn], ?_⟩
    simp [execOp, hn, hc, go_sem]
    exact rfl
  apply go_val pre_kept
  · rintro ρ wr ⟨hg, hn, hc, hf, hgl⟩
    simp only [Need, fat, List.nil_append, List.cons_append, List.getD_cons_zero, List.getD_cons_succ, Fct.hold, and_true] at hn
    refine ⟨by simp [wantP, hn], ?_⟩
    simp [execOp, hn, hc, go_sem]
    exact rfl
  apply go_val pre_kept
  · rintro ρ wr ⟨hg, hn, hc, hf, hgl⟩
    simp only [Need, fat, List.nil_append, List.cons_append, List.getD_cons_zero, List.getD_cons_succ, Fct.hold, and_true] at hn
    refine ⟨by simp [wantP, hn], ?_⟩
    simp [execOp, hn, hc, go_sem]
    exact rfl
  apply go_val pre_kept
  · rintro ρ wr ⟨hg, hn, hc, hf, hgl⟩
    simp only [Need, fat, List.nil_append, List.cons_append, List.getD_cons_zero, List.getD_cons_succ, Fct.hold, and_true] at hn
    have hl := And.intro (hg.cell c0) (hg.cell c1)
    refine ⟨by simp [wantP, hn], ?_⟩
    simp [execOp, hn, hc, hl, go_sem]
    exact rfl
  apply go_val pre_kept
  · rintro ρ wr ⟨hg, hn, hc, hf, hgl⟩
    simp only [Need, fat, List.nil_append, List.cons_append, List.getD_cons_zero, List.getD_cons_succ, Fct.hold, and_true] at hn
    refine ⟨by simp [wantP, hn], ?_⟩
    simp [execOp, hn, hc, go_sem]
    exact rfl
  apply go_val (x := .bool true) pre_kept
  · rintro ρ wr ⟨hg, hn, hc, hf, hgl⟩
    simp only [Need, fat, List.nil_append, List.cons_append, List.getD_cons_zero, List.getD_cons_succ, Fct.hold, and_true] at hn
    refine ⟨by simp [wantP, hn], ?_⟩
    simp [execOp, hn, hc, go_sem, heq]
  intro w4 hk4
  simp only [Post, List.nil_append, List.cons_append, Act.put, List.setIfInBounds_toArray, List.set_cons_zero, List.set_cons_succ]
  rename_i hK
  refine hK _ _ ?_
  clear hK
  have H4 := Lib.hid (And.intro (H2.out.1.kept ((Kept.drew (Kept.refl _)).trans hk4)) (H2.out.2.trans (((Kept.drew (Kept.refl _)).trans hk4).gr g)))
  clear c0 c1 f0 f1 H2 hk4
  obtain ⟨⟨c0, c1, -⟩, f0, f1, -⟩ := H4.out.1.cells
  go_wp2_with fail
  go_ret2
  subst hkk
  exact ⟨rfl, H4.out⟩
set_option maxHeartbeats 2000000 in
theorem literal_false_in (g : Nat) (s : ByteArray) (k op : Nat) (w : World) (h : Rd g s k op w) (hs : s.size ≤ 200) (_hk : k ≤ s.size) (hb : (byteAt s k == some 92) = false) (hlt : k < s.size) : Calls Try.prog 50 #[ptr g] w (LitPost g s op (.ok s[k] (k + 1)) w) := by
  have HS := Lib.hid (sees_any g s k op 92 w h)
  rw [hb] at HS
  have HR := Lib.hid h
  clear h
  unfold ptr LitPost at *
  clear hb
  go_enter Try.func50, Try.ntmps50
  go_wp2_with fail
  refine HS.out.mono ?_
  rintro e w1 ⟨rfl, hk1⟩
  have H1 := Lib.hid (And.intro (HR.out.kept hk1) (hk1.gr g))
  obtain ⟨⟨c0, c1, -⟩, f0, f1, -⟩ := H1.out.1.cells
  clear hk1 HR HS
  go_wp2_with fail
  have H2 := H1
  clear H1
  generalize hkk : k = j at H2 hlt c1 ⊢
  obtain ⟨x, hix⟩ : ∃ x : Nat, s[j].toNat = x := ⟨_, rfl⟩
  have heq : ¬ (j : Int) = s.size := by omega
  have hlt2 : (j : Int) < s.size := by omega
  have hk0 : (0 : Int) ≤ j := by omega
  try go_wp2_with fail
  refine wp_region_go Kept pre_kept [([(0, none)], none), ([(14, some 0)], none), ([(15, some 1)], none), ([(16, some 2)], none), ([(0, none)], none), ([(18, some 4)], none), ([(19, some 5)], none), ([(20, some 6)], none), ([(21, some 7)], none), ([(17, some 3), (22, some 8)], none)] (by kernel_rfl) 41 rfl (by kernel_rfl) (by kernel_rfl) ?_
  apply go_val pre_kept
  · rintro ρ wr ⟨hg, hn, hc, hf, hgl⟩
    simp only [Need, fat, List.nil_append, List.cons_append, List.getD_cons_zero, List.getD_cons_succ, Fct.hold, and_true] at hn
    refine ⟨by simp [wantP, hn], ?_⟩
    simp [execOp, hn, hc, go_sem]
    exact rfl
  apply go_val pre_kept
  · rintro ρ wr ⟨hg, hn, hc, hf, hgl⟩
    simp only [Need, fat, List.nil_append, List.cons_append, List.getD_cons_zero, List.getD_cons_succ, Fct.hold, and_true] at hn
    refine ⟨by simp [wantP, hn], ?_⟩
    simp [execOp, hn, hc, go_sem]
    exact rfl
  apply go_val pre_kept
  · rintro ρ wr ⟨hg, hn, hc, hf, hgl⟩
    simp only [Need, fat, List.nil_append, List.cons_append, List.getD_cons_zero, List.getD_cons_succ, Fct.hold, and_true] at hn
    refine ⟨by simp [wantP, hn], ?_⟩
    simp [execOp, hn, hc, go_sem]
    exact rfl
  apply go_val pre_kept
  · rintro ρ wr ⟨hg, hn, hc, hf, hgl⟩
    simp only [Need, fat, List.nil_append, List.cons_append, List.getD_cons_zero, List.getD_cons_succ, Fct.hold, and_true] at hn
    have hl := And.intro (hg.cell c0) (hg.cell c1)
    refine ⟨by simp [wantP, hn], ?_⟩
    simp [execOp, hn, hc, hl, go_sem]
    exact rfl
  apply go_val pre_kept
  · rintro ρ wr ⟨hg, hn, hc, hf, hgl⟩
    simp only [Need, fat, List.nil_append, List.cons_append, List.getD_cons_zero, List.getD_cons_succ, Fct.hold, and_true] at hn
    refine ⟨by simp [wantP, hn], ?_⟩
    simp [execOp, hn, hc, go_sem]
    exact rfl
  apply go_val pre_kept
  · rintro ρ wr ⟨hg, hn, hc, hf, hgl⟩
    simp only [Need, fat, List.nil_append, List.cons_append, List.getD_cons_zero, List.getD_cons_succ, Fct.hold, and_true] at hn
    refine ⟨by simp [wantP, hn], ?_⟩
    simp [execOp, hn, hc, go_sem]
    exact rfl
  apply go_val pre_kept
  · rintro ρ wr ⟨hg, hn, hc, hf, hgl⟩
    simp only [Need, fat, List.nil_append, List.cons_append, List.getD_cons_zero, List.getD_cons_succ, Fct.hold, and_true] at hn
    refine ⟨by simp [wantP, hn], ?_⟩
    simp [execOp, hn, hc, go_sem]
    exact rfl
  apply go_val pre_kept
  · rintro ρ wr ⟨hg, hn, hc, hf, hgl⟩
    simp only [Need, fat, List.nil_append, List.cons_append, List.getD_cons_zero, List.getD_cons_succ, Fct.hold, and_true] at hn
    have hl := And.intro (hg.cell c0) (hg.cell c1)
    refine ⟨by simp [wantP, hn], ?_⟩
    simp [execOp, hn, hc, hl, go_sem]
    exact rfl
  apply go_val pre_kept
  · rintro ρ wr ⟨hg, hn, hc, hf, hgl⟩
    simp only [Need, fat, List.nil_append, List.cons_append, List.getD_cons_zero, List.getD_cons_succ, Fct.hold, and_true] at hn
    refine ⟨by simp [wantP, hn], ?_⟩
    simp [execOp, hn, hc, go_sem]
    exact rfl
  apply go_val (x := .bool false) pre_kept
  · rintro ρ wr ⟨hg, hn, hc, hf, hgl⟩
    simp only [Need, fat, List.nil_append, List.cons_append, List.getD_cons_zero, List.getD_cons_succ, Fct.hold, and_true] at hn
    refine ⟨by simp [wantP, hn], ?_⟩
    simp [execOp, hn, hc, go_sem, heq]
  intro w4 hk4
  simp only [Post, List.nil_append, List.cons_append, Act.put, List.setIfInBounds_toArray, List.set_cons_zero, List.set_cons_succ]
  rename_i hK
  refine hK _ _ ?_
  clear hK
  have H4 := Lib.hid (And.intro (H2.out.1.kept ((Kept.drew (Kept.refl _)).trans hk4)) (H2.out.2.trans (((Kept.drew (Kept.refl _)).trans hk4).gr g)))
  clear c0 c1 f0 f1 H2 hk4
  obtain ⟨⟨c0, c1, -⟩, f0, f1, -⟩ := H4.out.1.cells
  go_wp2_with fail
  refine wp_region_go Kept pre_kept [([(0, none)], none), ([(24, some 0)], none), ([(25, some 1)], none), ([(26, some 2)], none), ([(0, none)], none), ([(28, some 4)], none), ([(29, some 5)], none), ([(30, some 6)], none), ([(27, some 3), (31, some 7)], none), ([(32, some 8)], none)] (by kernel_rfl) 41 rfl (by kernel_rfl) (by kernel_rfl) ?_
  apply go_val pre_kept
  · rintro ρ wr ⟨hg, hn, hc, hf, hgl⟩
    simp only [Need, fat, List.nil_append, List.cons_append, List.getD_cons_zero, List.getD_cons_succ, Fct.hold, and_true] at hn
    refine ⟨by simp [wantP, hn], ?_⟩
    simp [execOp, hn, hc, go_sem]
    exact rfl
  apply go_val pre_kept
  · rintro ρ wr ⟨hg, hn, hc, hf, hgl⟩
    simp only [Need, fat, List.nil_append, List.cons_append, List.getD_cons_zero, List.getD_cons_succ, Fct.hold, and_true] at hn
    refine ⟨by simp [wantP, hn], ?_⟩
    simp [execOp, hn, hc, go_sem]
    exact rfl
  apply go_val pre_kept
  · rintro ρ wr ⟨hg, hn, hc, hf, hgl⟩
    simp only [Need, fat, List.nil_append, List.cons_append, List.getD_cons_zero, List.getD_cons_succ, Fct.hold, and_true] at hn
    refine ⟨by simp [wantP, hn], ?_⟩
    simp [execOp, hn, hc, go_sem]
    exact rfl
  apply go_val pre_kept
  · rintro ρ wr ⟨hg, hn, hc, hf, hgl⟩
    simp only [Need, fat, List.nil_append, List.cons_append, List.getD_cons_zero, List.getD_cons_succ, Fct.hold, and_true] at hn
    have hl := And.intro (hg.cell c0) (hg.cell c1)
    refine ⟨by simp [wantP, hn], ?_⟩
    simp [execOp, hn, hc, hl, go_sem]
    exact rfl
  apply go_val pre_kept
  · rintro ρ wr ⟨hg, hn, hc, hf, hgl⟩
    simp only [Need, fat, List.nil_append, List.cons_append, List.getD_cons_zero, List.getD_cons_succ, Fct.hold, and_true] at hn
    refine ⟨by simp [wantP, hn], ?_⟩
    simp [execOp, hn, hc, go_sem]
    exact rfl
  apply go_val pre_kept
  · rintro ρ wr ⟨hg, hn, hc, hf, hgl⟩
    simp only [Need, fat, List.nil_append, List.cons_append, List.getD_cons_zero, List.getD_cons_succ, Fct.hold, and_true] at hn
    refine ⟨by simp [wantP, hn], ?_⟩
    simp [execOp, hn, hc, go_sem]
    exact rfl
  apply go_val pre_kept
  · rintro ρ wr ⟨hg, hn, hc, hf, hgl⟩
    simp only [Need, fat, List.nil_append, List.cons_append, List.getD_cons_zero, List.getD_cons_succ, Fct.hold, and_true] at hn
    refine ⟨by simp [wantP, hn], ?_⟩
    simp [execOp, hn, hc, go_sem]
    exact rfl
  apply go_val pre_kept
  · rintro ρ wr ⟨hg, hn, hc, hf, hgl⟩
    simp only [Need, fat, List.nil_append, List.cons_append, List.getD_cons_zero, List.getD_cons_succ, Fct.hold, and_true] at hn
    have hl := And.intro (hg.cell c0) (hg.cell c1)
    refine ⟨by simp [wantP, hn], ?_⟩
    simp [execOp, hn, hc, hl, go_sem]
    exact rfl
  apply go_val (x := .int .u8 (x : Int)) pre_kept
  · rintro ρ wr ⟨hg, hn, hc, hf, hgl⟩
    simp only [Need, fat, List.nil_append, List.cons_append, List.getD_cons_zero, List.getD_cons_succ, Fct.hold, and_true] at hn
    refine ⟨by simp [wantP, hn], ?_⟩
    simp [execOp, hn, hc, go_sem, hix, hlt2, hk0]
  apply go_val pre_kept
  · rintro ρ wr ⟨hg, hn, hc, hf, hgl⟩
    simp only [Need, fat, List.nil_append, List.cons_append, List.getD_cons_zero, List.getD_cons_succ, Fct.hold, and_true] at hn
    refine ⟨by simp [wantP, hn], ?_⟩
    simp [execOp, hn, hc, go_sem]
    exact rfl
  intro w5 hk5
  simp only [Post, List.nil_append, List.cons_append, Act.put, List.setIfInBounds_toArray, List.set_cons_zero, List.set_cons_succ]
  rename_i hK
  refine hK _ _ ?_
  clear hK
  have H5 := Lib.hid (And.intro (H4.out.1.kept ((Kept.drew (Kept.refl _)).trans hk5)) (H4.out.2.trans (((Kept.drew (Kept.refl _)).trans hk5).gr g)))
  clear c0 c1 f0 f1 H4 hk5
  obtain ⟨⟨c0, c1, -⟩, f0, f1, -⟩ := H5.out.1.cells
  go_wp2_with fail
  go_ret2
  subst hkk
  exact ⟨by rw [hix]; rfl, H5.out.1.at (_ + 1), H5.out.2.set (.inl rfl) _⟩
theorem literal_any (g : Nat) (s : ByteArray) (k op : Nat) (w : World) (h : Rd g s k op w) (hs : s.size ≤ 200) (hk : k ≤ s.size) : Calls Try.prog 50 #[ptr g] w (LitPost g s op (litP s k) w) := by
  unfold litP litB
  by_cases hb : byteAt s k = some 92
  · rw [if_pos hb]
    by_cases hlt : k + 1 < s.size
    · rw [byteAt_some hlt]
      exact literal_true_in g s k op w h hs hk (by simp [hb]) hlt
    · rw [byteAt_none hlt]
      exact literal_true_end g s k op w h hs hk (by simp [hb]) hlt
  · rw [if_neg hb]
    by_cases hlt : k < s.size
    · have e := byteAt_some hlt
      rw [e]
      exact literal_false_in g s k op w h hs hk (by simp [hb]) hlt
    · rw [byteAt_none hlt]
      exact literal_false_end g s k op w h hs hk (by simp [hb]) hlt
end Go.Proofs.Ytpnmcinbohdmhaa
