/-
  What the law RopePlays does.
-/
import Derived.Test.YtdobbindilibjaaAlive
import Derived.Test.YtdobbindilibjaaOpenR
import Derived.Test.YtdobbindilibjaaRefs
set_option linter.unusedSimpArgs false
namespace Go.Proofs.Ytdobbindilibjaa
open Go Go.RowKit Kit
theorem rp_mk {w : World} {v : Value} {s : List UInt8} {m : Nat} (h : Rp w v s m) : Mk m w := by
  obtain ⟨_, _, _, _, _, hh⟩ := h
  exact hh
/-- The height that is told. -/
def Hq (_ : World) (s : List UInt8) (v : Value) : Prop := ∃ k : Nat, v = .int .i64 (k : Int) ∧ 1 ≤ k ∧ k ≤ 3 + 2 * bits s.length
theorem height_q (v : Value) (s : List UInt8) (m : Nat) (w : World) (h : Rp w v s m) : Calls Try.prog 13 #[v] w (Ret Kept (fun u w' => Hq w' s u) w) :=
  (Height_any v s m w h).mono fun e w' ⟨⟨k, h1, h2, h3⟩, h4⟩ => ⟨_, h1, ⟨k, rfl, h2, by
    rcases h3 with ⟨_, rfl⟩ | ⟨t, t1, t2, rfl⟩
    · omega
    · have := high_ok t t1
      rw [t2] at this
      exact this⟩, by rw [h4]; exact Kept.refl _⟩
theorem slall (b : List UInt8) : (b.take (max (max 0 (min (0 : Int) b.length)) (min (b.length : Int) b.length)).toNat).drop (max 0 (min (0 : Int) b.length)).toNat = b := by
  rw [show (max 0 (min (0 : Int) b.length)).toNat = 0 from by omega, show (max (max 0 (min (0 : Int) b.length)) (min (b.length : Int) b.length)).toNat = b.length from by omega, List.drop_zero, List.take_of_length_le (Nat.le_refl _)]
theorem doL_le (b : List UInt8) (at' del : Int) (l : List UInt8) : (doL b at' del l).length ≤ b.length + l.length := by
  unfold doL
  have h := cutI_bd at' b.length
  have h2 := h.2 (by omega)
  have h3 := cutI_bd del (b.length - cutI at' b.length)
  have h4 := h3.2 (by omega)
  simp only [List.length_append, List.length_take, List.length_drop]
  omega
set_option maxRecDepth 100000 in
set_option maxHeartbeats 8000000 in
theorem plays_in (b : List UInt8) (l : List (Int × Int × List UInt8)) (v1 v2 : Value) (x y : Int) (w : World) (h1 : Bs w v1 b) (h2 : Sps w v2 l) (hb : b.length ≤ 3000) (hl : l.length ≤ 40) : Calls Try.prog 3 #[v1, v2, .int .i64 x, .int .i64 y] w fun e w' => e = .returned (.bool true) ∧ Kept w w' := by
  have H1 := Lib.hid h1
  obtain ⟨A1, c1, rfl⟩ := h1.form
  obtain ⟨A2, c2, rfl, -, -, hel⟩ := h2
  have HEL := Lib.hid hel
  clear h1 hel
  obtain ⟨i0, hi, hz0, hz1, hz2⟩ := info_parts info5
  have x1 : ¬ (b.length : Int) > 3000 := by omega
  have x2 : ¬ (l.length : Int) > 40 := by omega
  have hd1 : decide ((3000 : Int) < b.length) = false := by simp; omega
  have hd2 : decide ((40 : Int) < l.length) = false := by simp; omega
  go_enter Try.func3, Try.ntmps3
  go_wp2_with fail
  refine (alive_any w).mono ?_
  rintro e w1 ⟨rfl, k1⟩
  have K1 := Lib.hid k1
  clear k1
  go_wp2_with (at_builtin; refine wpList_fresh _ rfl _ _ _ rfl 5 i0 _ Try.underlying22 hi hz0 hz1 hz2 rfl rfl _ b rfl (H1.out.keep K1.out) (by omega) ?_; intro v3 w3 hb3 hk3)
  have K3 := Lib.hid (K1.out.trans hk3)
  refine (new_any b (by omega) _ w3 hb3).mono ?_
  rintro e w2 ⟨u, m, rfl, h2, hm, k2⟩
  have H2 := Lib.hid h2
  obtain ⟨g, root, rfl, -⟩ := h2
  have K2 := Lib.hid (And.intro (K3.out.trans k2) (Nat.le_trans K3.out.size hm))
  obtain ⟨A3, c3, rfl⟩ := hb3.form
  clear hm k2 K1 hk3 hb3
  unfold ptr at *
  go_wp2_with (at_builtin; refine wpList_fresh _ rfl _ _ _ rfl 5 i0 _ Try.underlying22 hi hz0 hz1 hz2 rfl rfl _ b rfl (H1.out.keep K2.out.1) (by omega) ?_; intro v4 w4 hb4 hk4)
  have H4 := Lib.hid (And.intro (H2.out.kept hk4) (And.intro hb4 (K2.out.1.trans hk4)))
  obtain ⟨A4, c4, rfl⟩ := hb4.form
  clear hb4 hk4
  go_wp2_with fail
  go_loopw [10, 11, 12] (fun r now i W => ∃ (j : Nat) (s : List UInt8), i = .int .i64 (j : Int) ∧ j ≤ l.length + 1 ∧ s.length ≤ 3000 + 500 * j ∧ Rp W r s m ∧ Bs W now s ∧ Kept w W) (fun _ _ i _ => l.length + 1 - (intOf i).toNat)
  case atStart => exact ⟨0, b, rfl, Nat.zero_le _, by omega, H4.out.1, H4.out.2.1, H4.out.2.2⟩
  case round =>
    obtain ⟨j, s, rfl, hj, hsl, hrp, hbs, hkw⟩ := hrel
    have HR := Lib.hid (And.intro hrp (And.intro hbs hkw))
    have HX := Lib.hid (And.intro hrp hbs)
    obtain ⟨g5, root5, rfl, -⟩ := hrp
    obtain ⟨A5, c5, rfl⟩ := hbs.form
    have HL := Lib.hid (And.intro hsl (And.intro hj hl))
    clear hkw hbs hsl H4 H2
    unfold ptr
    by_cases hlt : j ≤ l.length
    · have y1 : (j : Int) ≤ l.length := by omega
      go_wp2_with fail
      refine wp_region_go Kept pre_kept [([(10, none)], none), ([(41, some 0)], none), ([(42, some 1)], none), ([(10, none), (43, some 2)], some (43, false)), ([(44, some 3), (43, some 2)], some (43, false)), ([(11, none), (43, some 2)], some (43, false)), ([(46, some 5), (43, some 2)], some (43, false)), ([(45, some 4), (47, some 6), (43, some 2)], some (43, false)), ([(43, some 2), (48, some 7)], none), ([(49, some 8)], none), ([(10, none), (50, some 9)], some (50, false)), ([(11, none), (50, some 9)], some (50, false)), ([(52, some 11), (50, some 9)], some (50, false)), ([(51, some 10), (53, some 12), (50, some 9)], some (50, false)), ([(54, some 13), (50, some 9)], some (50, false)), ([(11, none), (50, some 9)], some (50, false)), ([(56, some 15), (50, some 9)], some (50, false)), ([(55, some 14), (57, some 16), (50, some 9)], some (50, false)), ([(50, some 9), (58, some 17)], none), ([(59, some 18)], none), ([(10, none), (60, some 19)], some (60, false)), ([(61, some 20), (60, some 19)], some (60, false)), ([(11, none), (60, some 19)], some (60, false)), ([(63, some 22), (60, some 19)], some (60, false)), ([(62, some 21), (64, some 23), (60, some 19)], some (60, false)), ([(60, some 19), (65, some 24)], none), ([(66, some 25)], none), ([(10, none), (67, some 26)], some (67, false)), ([(68, some 27), (67, some 26)], some (67, false)), ([(11, none), (67, some 26)], some (67, false)), ([(70, some 29), (67, some 26)], some (67, false)), ([(71, some 30), (67, some 26)], some (67, false)), ([(69, some 28), (72, some 31), (67, some 26)], some (67, false)), ([(67, some 26), (73, some 32)], none), ([(74, some 33)], none), ([(10, none), (75, some 34)], some (75, false)), ([(76, some 35), (75, some 34)], some (75, false)), ([(77, some 36), (75, some 34)], some (75, false)), ([(75, some 34), (78, some 37)], none)] (by kernel_rfl) 152 rfl (by kernel_rfl) (by kernel_rfl) ?_
      apply go_val pre_kept
      · rintro ρ wr ⟨hg, hn, hc, hf, hgl⟩
        simp only [Need, fat, List.nil_append, List.cons_append, List.getD_cons_zero, List.getD_cons_succ, Fct.hold, and_true] at hn
        refine ⟨by simp [wantP, hn], ?_⟩
        simp [execOp, hn, hc, go_sem]
        exact rfl
      apply go_val pre_kept
      · rintro ρ wr ⟨hg, hn, hc, hf, hgl⟩
        simp only [Need, fat, List.nil_append, List.cons_append, List.getD_cons_zero, List.getD_cons_succ, Fct.hold, and_true] at hn
        refine ⟨by simp [wantP, hn], ?_⟩
        simp [execOp, hn, hc, go_sem]
        exact rfl
      apply go_val pre_kept
      · rintro ρ wr ⟨hg, hn, hc, hf, hgl⟩
        simp only [Need, fat, List.nil_append, List.cons_append, List.getD_cons_zero, List.getD_cons_succ, Fct.hold, and_true] at hn
        refine ⟨by simp [wantP, hn], ?_⟩
        simp [execOp, hn, hc, go_sem]
        exact rfl
      apply go_val pre_kept
      · rintro ρ wr ⟨hg, hn, hc, hf, hgl⟩
        simp only [Need, fat, List.nil_append, List.cons_append, List.getD_cons_zero, List.getD_cons_succ, Fct.hold, and_true] at hn
        refine ⟨by simp [wantP, hn], ?_⟩
        simp [execOp, hn, hc, go_sem]
        exact rfl
      apply go_callv (x := .int .i64 s.length)
      · rintro ρ wr ⟨hg, hn, hc, hf, hgl⟩
        simp only [Need, fat, List.nil_append, List.cons_append, List.getD_cons_zero, List.getD_cons_succ, Fct.hold, and_true] at hn
        refine ⟨by simp [wantP, hn], _, _, by simp [execOp, hn, hf, hc, resolve, invoke, go_sem]; exact ⟨rfl, rfl⟩, ?_⟩
        exact (Len_any _ s m wr (HX.out.1.kept ((Kept.drew (Kept.refl _)).trans hg))).mono fun e w' ⟨h1, h2⟩ => ⟨_, h1, rfl, by rw [h2]; exact Kept.refl _⟩
      apply go_val pre_kept
      · rintro ρ wr ⟨hg, hn, hc, hf, hgl⟩
        simp only [Need, fat, List.nil_append, List.cons_append, List.getD_cons_zero, List.getD_cons_succ, Fct.hold, and_true] at hn
        refine ⟨by simp [wantP, hn], ?_⟩
        simp [execOp, hn, hc, go_sem]
        exact rfl
      apply go_val pre_kept
      · rintro ρ wr ⟨hg, hn, hc, hf, hgl⟩
        simp only [Need, fat, List.nil_append, List.cons_append, List.getD_cons_zero, List.getD_cons_succ, Fct.hold, and_true] at hn
        refine ⟨by simp [wantP, hn], ?_⟩
        simp [execOp, hn, hc, go_sem]
        exact rfl
      apply go_val (x := .bool false) pre_kept
      · rintro ρ wr ⟨hg, hn, hc, hf, hgl⟩
        simp only [Need, fat, List.nil_append, List.cons_append, List.getD_cons_zero, List.getD_cons_succ, Fct.hold, and_true] at hn
        refine ⟨by simp [wantP, hn], ?_⟩
        simp [execOp, hn, hc, go_sem]
      apply go_val (x := .bool false) pre_kept
      · rintro ρ wr ⟨hg, hn, hc, hf, hgl⟩
        simp only [Need, fat, List.nil_append, List.cons_append, List.getD_cons_zero, List.getD_cons_succ, Fct.hold, and_true] at hn
        refine ⟨by simp [wantP, hn], ?_⟩
        simp [execOp, hn, hc, go_sem]
      apply go_val (x := .bool false) pre_kept
      · rintro ρ wr ⟨hg, hn, hc, hf, hgl⟩
        simp only [Need, fat, List.nil_append, List.cons_append, List.getD_cons_zero, List.getD_cons_succ, Fct.hold, and_true] at hn
        refine ⟨by simp [wantP, hn], ?_⟩
        simp [execOp, hn, hc, go_sem]
      apply go_val pre_kept
      · rintro ρ wr ⟨hg, hn, hc, hf, hgl⟩
        simp only [Need, fat, List.nil_append, List.cons_append, List.getD_cons_zero, List.getD_cons_succ, Fct.hold, and_true] at hn
        refine ⟨by simp [wantP, hn], ?_⟩
        simp [execOp, hn, hc, go_sem]
        exact rfl
      apply go_val pre_kept
      · rintro ρ wr ⟨hg, hn, hc, hf, hgl⟩
        simp only [Need, fat, List.nil_append, List.cons_append, List.getD_cons_zero, List.getD_cons_succ, Fct.hold, and_true] at hn
        refine ⟨by simp [wantP, hn], ?_⟩
        simp [execOp, hn, hc, go_sem]
        exact rfl
      apply go_val pre_kept
      · rintro ρ wr ⟨hg, hn, hc, hf, hgl⟩
        simp only [Need, fat, List.nil_append, List.cons_append, List.getD_cons_zero, List.getD_cons_succ, Fct.hold, and_true] at hn
        refine ⟨by simp [wantP, hn], ?_⟩
        simp [execOp, hn, hc, go_sem]
        exact rfl
      refine go_call (p := fun u w' => Bs w' u s) (fun _ _ _ h k => k.keep h) ?_ ?_
      · rintro ρ wr ⟨hg, hn, hc, hf, hgl⟩
        simp only [Need, fat, List.nil_append, List.cons_append, List.getD_cons_zero, List.getD_cons_succ, Fct.hold, and_true] at hn
        refine ⟨by simp [wantP, hn], _, _, by simp [execOp, hn, hf, hc, resolve, invoke, go_sem]; exact ⟨rfl, rfl⟩, ?_⟩
        exact (Slice_any _ s m 0 s.length wr (HX.out.1.kept ((Kept.drew (Kept.refl _)).trans hg)) (by have := HL.out; omega)).mono fun e w' ⟨u, h1, h2, h3⟩ => ⟨u, h1, by rw [slall s] at h2; exact h2, h3⟩
      apply go_val (x := .string ⟨(s).toArray⟩) pre_kept
      · rintro ρ wr ⟨hg, hn, hc, hf, hgl⟩
        simp only [Need, fat, List.nil_append, List.cons_append, List.getD_cons_zero, List.getD_cons_succ, Fct.hold, and_true] at hn
        refine ⟨by simp [wantP, hn.2], ?_⟩
        have hq := Bs.str (P := Try.prog) hn.1 22 9 5 Try.underlying22 Try.underlying5 Try.underlying9
        simp only [execOp]
        simp [hq, go_sem]
      apply go_val pre_kept
      · rintro ρ wr ⟨hg, hn, hc, hf, hgl⟩
        simp only [Need, fat, List.nil_append, List.cons_append, List.getD_cons_zero, List.getD_cons_succ, Fct.hold, and_true] at hn
        refine ⟨by simp [wantP, hn], ?_⟩
        simp [execOp, hn, hc, go_sem]
        exact rfl
      apply go_val (x := .string ⟨(s).toArray⟩) pre_kept
      · rintro ρ wr ⟨hg, hn, hc, hf, hgl⟩
        simp only [Need, fat, List.nil_append, List.cons_append, List.getD_cons_zero, List.getD_cons_succ, Fct.hold, and_true] at hn
        refine ⟨by simp [wantP, hn], ?_⟩
        have hq := Bs.str (P := Try.prog) (HX.out.2.keep ((Kept.drew (Kept.refl _)).trans hg)) 22 9 5 Try.underlying22 Try.underlying5 Try.underlying9
        simp only [execOp]
        simp [hn, hq, go_sem]
      apply go_val (x := .bool false) pre_kept
      · rintro ρ wr ⟨hg, hn, hc, hf, hgl⟩
        simp only [Need, fat, List.nil_append, List.cons_append, List.getD_cons_zero, List.getD_cons_succ, Fct.hold, and_true] at hn
        refine ⟨by simp [wantP, hn], ?_⟩
        simp [execOp, hn, hc, go_sem]
      apply go_val (x := .bool false) pre_kept
      · rintro ρ wr ⟨hg, hn, hc, hf, hgl⟩
        simp only [Need, fat, List.nil_append, List.cons_append, List.getD_cons_zero, List.getD_cons_succ, Fct.hold, and_true] at hn
        refine ⟨by simp [wantP, hn], ?_⟩
        simp [execOp, hn, hc, go_sem]
      apply go_val (x := .bool false) pre_kept
      · rintro ρ wr ⟨hg, hn, hc, hf, hgl⟩
        simp only [Need, fat, List.nil_append, List.cons_append, List.getD_cons_zero, List.getD_cons_succ, Fct.hold, and_true] at hn
        refine ⟨by simp [wantP, hn], ?_⟩
        simp [execOp, hn, hc, go_sem]
      apply go_val pre_kept
      · rintro ρ wr ⟨hg, hn, hc, hf, hgl⟩
        simp only [Need, fat, List.nil_append, List.cons_append, List.getD_cons_zero, List.getD_cons_succ, Fct.hold, and_true] at hn
        refine ⟨by simp [wantP, hn], ?_⟩
        simp [execOp, hn, hc, go_sem]
        exact rfl
      apply go_callv (x := .int .i64 ((nl s : Int) + 1))
      · rintro ρ wr ⟨hg, hn, hc, hf, hgl⟩
        simp only [Need, fat, List.nil_append, List.cons_append, List.getD_cons_zero, List.getD_cons_succ, Fct.hold, and_true] at hn
        refine ⟨by simp [wantP, hn], _, _, by simp [execOp, hn, hf, hc, resolve, invoke, go_sem]; exact ⟨rfl, rfl⟩, ?_⟩
        exact (Lines_any _ s m wr (HX.out.1.kept ((Kept.drew (Kept.refl _)).trans hg)) (by have := HL.out; omega)).mono fun e w' ⟨h1, h2⟩ => ⟨_, h1, rfl, by rw [h2]; exact Kept.refl _⟩
      apply go_val pre_kept
      · rintro ρ wr ⟨hg, hn, hc, hf, hgl⟩
        simp only [Need, fat, List.nil_append, List.cons_append, List.getD_cons_zero, List.getD_cons_succ, Fct.hold, and_true] at hn
        refine ⟨by simp [wantP, hn], ?_⟩
        simp [execOp, hn, hc, go_sem]
        exact rfl
      apply go_callv (x := .int .i64 ((nl s : Int) + 1))
      · rintro ρ wr ⟨hg, hn, hc, hf, hgl⟩
        simp only [Need, fat, List.nil_append, List.cons_append, List.getD_cons_zero, List.getD_cons_succ, Fct.hold, and_true] at hn
        refine ⟨by simp [wantP, hn], _, _, by simp [execOp, hn, hf, hc, resolve, invoke, go_sem]; exact ⟨rfl, rfl⟩, ?_⟩
        exact (refLines_any _ s wr (HX.out.2.keep ((Kept.drew (Kept.refl _)).trans hg)) (by have := HL.out; omega)).mono fun e w' ⟨h1, h2⟩ => ⟨_, h1, rfl, by rw [h2]; exact Kept.refl _⟩
      apply go_val (x := .bool false) pre_kept
      · rintro ρ wr ⟨hg, hn, hc, hf, hgl⟩
        simp only [Need, fat, List.nil_append, List.cons_append, List.getD_cons_zero, List.getD_cons_succ, Fct.hold, and_true] at hn
        refine ⟨by simp [wantP, hn], ?_⟩
        simp [execOp, hn, hc, go_sem]
      apply go_val (x := .bool false) pre_kept
      · rintro ρ wr ⟨hg, hn, hc, hf, hgl⟩
        simp only [Need, fat, List.nil_append, List.cons_append, List.getD_cons_zero, List.getD_cons_succ, Fct.hold, and_true] at hn
        refine ⟨by simp [wantP, hn], ?_⟩
        simp [execOp, hn, hc, go_sem]
      apply go_val (x := .bool false) pre_kept
      · rintro ρ wr ⟨hg, hn, hc, hf, hgl⟩
        simp only [Need, fat, List.nil_append, List.cons_append, List.getD_cons_zero, List.getD_cons_succ, Fct.hold, and_true] at hn
        refine ⟨by simp [wantP, hn], ?_⟩
        simp [execOp, hn, hc, go_sem]
      apply go_val pre_kept
      · rintro ρ wr ⟨hg, hn, hc, hf, hgl⟩
        simp only [Need, fat, List.nil_append, List.cons_append, List.getD_cons_zero, List.getD_cons_succ, Fct.hold, and_true] at hn
        refine ⟨by simp [wantP, hn], ?_⟩
        simp [execOp, hn, hc, go_sem]
        exact rfl
      refine go_call (p := fun u w' => Hq w' s u) (fun _ _ _ _ k => k) ?_ ?_
      · rintro ρ wr ⟨hg, hn, hc, hf, hgl⟩
        simp only [Need, fat, List.nil_append, List.cons_append, List.getD_cons_zero, List.getD_cons_succ, Fct.hold, and_true] at hn
        refine ⟨by simp [wantP, hn], _, _, by simp [execOp, hn, hf, hc, resolve, invoke, go_sem]; exact ⟨rfl, rfl⟩, ?_⟩
        exact height_q _ s m wr (HX.out.1.kept ((Kept.drew (Kept.refl _)).trans hg))
      apply go_val pre_kept
      · rintro ρ wr ⟨hg, hn, hc, hf, hgl⟩
        simp only [Need, fat, List.nil_append, List.cons_append, List.getD_cons_zero, List.getD_cons_succ, Fct.hold, and_true] at hn
        refine ⟨by simp [wantP, hn], ?_⟩
        simp [execOp, hn, hc, go_sem]
        exact rfl
      apply go_val pre_kept
      · rintro ρ wr ⟨hg, hn, hc, hf, hgl⟩
        simp only [Need, fat, List.nil_append, List.cons_append, List.getD_cons_zero, List.getD_cons_succ, Fct.hold, and_true] at hn
        refine ⟨by simp [wantP, hn], ?_⟩
        simp [execOp, hn, hc, go_sem]
        exact rfl
      apply go_callv (x := .int .i64 ((3 + 2 * bits s.length : Nat) : Int))
      · rintro ρ wr ⟨hg, hn, hc, hf, hgl⟩
        simp only [Need, fat, List.nil_append, List.cons_append, List.getD_cons_zero, List.getD_cons_succ, Fct.hold, and_true] at hn
        refine ⟨by simp [wantP, hn], _, _, by simp [execOp, hn, hf, hc, resolve, invoke, go_sem]; exact ⟨rfl, rfl⟩, ?_⟩
        exact (tall_any s.length wr (by have := HL.out; omega)).mono fun e w' ⟨h1, h2⟩ => ⟨_, h1, rfl, by rw [h2]; exact Kept.refl _⟩
      apply go_val (x := .bool false) pre_kept
      · rintro ρ wr ⟨hg, hn, hc, hf, hgl⟩
        simp only [Need, fat, List.nil_append, List.cons_append, List.getD_cons_zero, List.getD_cons_succ, Fct.hold, and_true] at hn
        obtain ⟨⟨k, n1, k1, k2⟩, n2, n3⟩ := hn
        refine ⟨by simp [wantP, n3], ?_⟩
        have hq : ¬ (((3 + 2 * bits s.length : Nat) : Int) < (k : Int)) := by omega
        generalize 3 + 2 * bits s.length = T at *
        simp [execOp, n1, n2, hc, go_sem]
        omega
      apply go_val (x := .bool false) pre_kept
      · rintro ρ wr ⟨hg, hn, hc, hf, hgl⟩
        simp only [Need, fat, List.nil_append, List.cons_append, List.getD_cons_zero, List.getD_cons_succ, Fct.hold, and_true] at hn
        refine ⟨by simp [wantP, hn], ?_⟩
        simp [execOp, hn, hc, go_sem]
      apply go_val (x := .bool false) pre_kept
      · rintro ρ wr ⟨hg, hn, hc, hf, hgl⟩
        simp only [Need, fat, List.nil_append, List.cons_append, List.getD_cons_zero, List.getD_cons_succ, Fct.hold, and_true] at hn
        refine ⟨by simp [wantP, hn], ?_⟩
        simp [execOp, hn, hc, go_sem]
      apply go_val pre_kept
      · rintro ρ wr ⟨hg, hn, hc, hf, hgl⟩
        simp only [Need, fat, List.nil_append, List.cons_append, List.getD_cons_zero, List.getD_cons_succ, Fct.hold, and_true] at hn
        refine ⟨by simp [wantP, hn], ?_⟩
        simp [execOp, hn, hc, go_sem]
        exact rfl
      refine go_call (p := fun u w' => Hq w' s u) (fun _ _ _ _ k => k) ?_ ?_
      · rintro ρ wr ⟨hg, hn, hc, hf, hgl⟩
        simp only [Need, fat, List.nil_append, List.cons_append, List.getD_cons_zero, List.getD_cons_succ, Fct.hold, and_true] at hn
        refine ⟨by simp [wantP, hn], _, _, by simp [execOp, hn, hf, hc, resolve, invoke, go_sem]; exact ⟨rfl, rfl⟩, ?_⟩
        exact height_q _ s m wr (HX.out.1.kept ((Kept.drew (Kept.refl _)).trans hg))
      apply go_val (x := .bool false) pre_kept
      · rintro ρ wr ⟨hg, hn, hc, hf, hgl⟩
        simp only [Need, fat, List.nil_append, List.cons_append, List.getD_cons_zero, List.getD_cons_succ, Fct.hold, and_true] at hn
        obtain ⟨⟨k, n1, k1, k2⟩, n3⟩ := hn
        refine ⟨by simp [wantP, n3], ?_⟩
        simp [execOp, n1, hc, go_sem]
        omega
      apply go_val (x := .bool false) pre_kept
      · rintro ρ wr ⟨hg, hn, hc, hf, hgl⟩
        simp only [Need, fat, List.nil_append, List.cons_append, List.getD_cons_zero, List.getD_cons_succ, Fct.hold, and_true] at hn
        refine ⟨by simp [wantP, hn], ?_⟩
        simp [execOp, hn, hc, go_sem]
      intro w2 hk2
      simp only [Post, List.nil_append, List.cons_append, Act.put, List.setIfInBounds_toArray, List.set_cons_zero, List.set_cons_succ]
      intro u45 h45 u51 h51 u61 h61
      clear h45 h51 h61
      rename_i K hK
      refine hK _ _ ?_
      clear hK K
      have HY := Lib.hid (And.intro (HX.out.1.kept ((Kept.drew (Kept.refl _)).trans hk2)) (And.intro (HX.out.2.keep ((Kept.drew (Kept.refl _)).trans hk2)) (HR.out.2.2.trans ((Kept.drew (Kept.refl _)).trans hk2))))
      clear hk2
      go_wp2_with fail

      by_cases hin : 0 ≤ x ∧ x < s.length
      · obtain ⟨X, rfl⟩ := Int.eq_ofNat_of_zero_le hin.1
        have hXl : X < s.length := by omega
        obtain ⟨c, hcx⟩ : ∃ c, s[X]? = some c := ⟨_, List.getElem?_eq_getElem hXl⟩
        obtain ⟨A', c', e, -, -, hel⟩ := HY.out.2.1
        cases e
        obtain ⟨ad, rfl, hcell⟩ := hel X c hcx
        have hx0 : (0 : Int) ≤ X := by omega
        have hx1 : (X : Int) < s.length := by omega
        have HBY := Lib.hid (byte_some _ s m X c _ HY.out.1 hcx (by have := HL.out; omega))
        clear hel hcx hin
        unfold bv at *
        obtain ⟨P, hP⟩ : ∃ P, (s.take (max (max 0 (min (X : Int) s.length)) (min y s.length)).toNat).drop (max 0 (min (X : Int) s.length)).toNat = P := ⟨_, rfl⟩
        have HP := Lib.hid hP
        have HX2 := Lib.hid (And.intro HY.out.1 HY.out.2.1)
        clear hP
        refine HBY.out.mono ?_
        rintro e w6 ⟨rfl, rfl⟩
        go_wp2_with fail
        refine wp_region_go Kept pre_kept [([(14, none)], none), ([(15, none)], none), ([(94, some 0), (95, some 1)], none), ([(96, some 2)], none), ([(15, none), (97, some 3)], some (97, false)), ([(98, some 4), (97, some 3)], some (97, false)), ([(13, none), (99, some 5)], some (99, true)), ([(11, none), (99, some 5)], some (99, true)), ([(2, none), (99, some 5)], some (99, true)), ([(101, some 7), (102, some 8), (99, some 5)], some (99, true)), ([(103, some 9), (99, some 5)], some (99, true)), ([(100, some 6), (104, some 10), (99, some 5)], some (99, true)), ([(99, some 5), (105, some 11), (97, some 3)], some (97, false)), ([(97, some 3), (106, some 12)], none), ([(107, some 13)], none), ([(15, none), (108, some 14)], some (108, false)), ([(109, some 15), (108, some 14)], some (108, false)), ([(110, some 16), (108, some 14)], some (108, false)), ([(13, none), (111, some 17)], some (111, true)), ([(112, some 18), (111, some 17)], some (111, true)), ([(111, some 17), (113, some 19), (108, some 14)], some (108, false)), ([(108, some 14), (114, some 20)], none), ([(115, some 21)], none), ([(10, none), (116, some 22)], some (116, false)), ([(2, none), (116, some 22)], some (116, false)), ([(3, none), (116, some 22)], some (116, false)), ([(117, some 23), (118, some 24), (119, some 25), (116, some 22)], some (116, false)), ([(120, some 26), (116, some 22)], some (116, false)), ([(11, none), (116, some 22)], some (116, false)), ([(2, none), (116, some 22)], some (116, false)), ([(3, none), (116, some 22)], some (116, false)), ([(122, some 28), (123, some 29), (124, some 30), (116, some 22)], some (116, false)), ([(125, some 31), (116, some 22)], some (116, false)), ([(121, some 27), (126, some 32), (116, some 22)], some (116, false)), ([(116, some 22), (127, some 33)], none)] (by kernel_rfl) 152 rfl (by kernel_rfl) (by kernel_rfl) ?_
        apply go_val pre_kept
        · rintro ρ wr ⟨hg, hn, hc, hf, hgl⟩
          simp only [Need, fat, List.nil_append, List.cons_append, List.getD_cons_zero, List.getD_cons_succ, Fct.hold, and_true] at hn
          refine ⟨by simp [wantP, hn], ?_⟩
          simp [execOp, hn, hc, go_sem]
          exact rfl
        apply go_val pre_kept
        · rintro ρ wr ⟨hg, hn, hc, hf, hgl⟩
          simp only [Need, fat, List.nil_append, List.cons_append, List.getD_cons_zero, List.getD_cons_succ, Fct.hold, and_true] at hn
          refine ⟨by simp [wantP, hn], ?_⟩
          simp [execOp, hn, hc, go_sem]
          exact rfl
        apply go_val (x := .bool false) pre_kept
        · rintro ρ wr ⟨hg, hn, hc, hf, hgl⟩
          simp only [Need, fat, List.nil_append, List.cons_append, List.getD_cons_zero, List.getD_cons_succ, Fct.hold, and_true] at hn
          refine ⟨by simp [wantP, hn], ?_⟩
          simp [execOp, hn, hc, go_sem]
        apply go_val pre_kept
        · rintro ρ wr ⟨hg, hn, hc, hf, hgl⟩
          simp only [Need, fat, List.nil_append, List.cons_append, List.getD_cons_zero, List.getD_cons_succ, Fct.hold, and_true] at hn
          refine ⟨by simp [wantP, hn], ?_⟩
          simp [execOp, hn, hc, go_sem]
          exact rfl
        apply go_val pre_kept
        · rintro ρ wr ⟨hg, hn, hc, hf, hgl⟩
          simp only [Need, fat, List.nil_append, List.cons_append, List.getD_cons_zero, List.getD_cons_succ, Fct.hold, and_true] at hn
          refine ⟨by simp [wantP, hn], ?_⟩
          simp [execOp, hn, hc, go_sem]
          exact rfl
        apply go_val pre_kept
        · rintro ρ wr ⟨hg, hn, hc, hf, hgl⟩
          simp only [Need, fat, List.nil_append, List.cons_append, List.getD_cons_zero, List.getD_cons_succ, Fct.hold, and_true] at hn
          refine ⟨by simp [wantP, hn], ?_⟩
          simp [execOp, hn, hc, go_sem]
          exact rfl
        apply go_val pre_kept
        · rintro ρ wr ⟨hg, hn, hc, hf, hgl⟩
          simp only [Need, fat, List.nil_append, List.cons_append, List.getD_cons_zero, List.getD_cons_succ, Fct.hold, and_true] at hn
          refine ⟨by simp [wantP, hn], ?_⟩
          simp [execOp, hn, hc, go_sem]
          exact rfl
        apply go_val pre_kept
        · rintro ρ wr ⟨hg, hn, hc, hf, hgl⟩
          simp only [Need, fat, List.nil_append, List.cons_append, List.getD_cons_zero, List.getD_cons_succ, Fct.hold, and_true] at hn
          refine ⟨by simp [wantP, hn], ?_⟩
          simp [execOp, hn, hc, go_sem]
          exact rfl
        apply go_val pre_kept
        · rintro ρ wr ⟨hg, hn, hc, hf, hgl⟩
          simp only [Need, fat, List.nil_append, List.cons_append, List.getD_cons_zero, List.getD_cons_succ, Fct.hold, and_true] at hn
          refine ⟨by simp [wantP, hn], ?_⟩
          simp [execOp, hn, hc, go_sem]
          exact rfl
        apply go_val (x := .pointer (some (ad.add X))) pre_kept
        · rintro ρ wr ⟨hg, hn, hc, hf, hgl⟩
          simp only [Need, fat, List.nil_append, List.cons_append, List.getD_cons_zero, List.getD_cons_succ, Fct.hold, and_true] at hn
          refine ⟨by simp [wantP, hn], ?_⟩
          obtain ⟨n1, n2, n3⟩ := hn
          unfold execOp
          go_simp
        apply go_val (x := .int .u8 (c.toNat : Int)) pre_kept
        · rintro ρ wr ⟨hg, hn, hc, hf, hgl⟩
          simp only [Need, fat, List.nil_append, List.cons_append, List.getD_cons_zero, List.getD_cons_succ, Fct.hold, and_true] at hn
          refine ⟨by simp [wantP, hn], ?_⟩
          have hl := hg.cell hcell
          simp [execOp, hn, hc, hl, go_sem]
        apply go_val (x := .bool false) pre_kept
        · rintro ρ wr ⟨hg, hn, hc, hf, hgl⟩
          simp only [Need, fat, List.nil_append, List.cons_append, List.getD_cons_zero, List.getD_cons_succ, Fct.hold, and_true] at hn
          refine ⟨by simp [wantP, hn], ?_⟩
          simp [execOp, hn, hc, go_sem, bv]
        apply go_val (x := .bool false) pre_kept
        · rintro ρ wr ⟨hg, hn, hc, hf, hgl⟩
          simp only [Need, fat, List.nil_append, List.cons_append, List.getD_cons_zero, List.getD_cons_succ, Fct.hold, and_true] at hn
          refine ⟨by simp [wantP, hn], ?_⟩
          simp [execOp, hn, hc, go_sem]
        apply go_val (x := .bool false) pre_kept
        · rintro ρ wr ⟨hg, hn, hc, hf, hgl⟩
          simp only [Need, fat, List.nil_append, List.cons_append, List.getD_cons_zero, List.getD_cons_succ, Fct.hold, and_true] at hn
          refine ⟨by simp [wantP, hn], ?_⟩
          simp [execOp, hn, hc, go_sem]
        apply go_val pre_kept
        · rintro ρ wr ⟨hg, hn, hc, hf, hgl⟩
          simp only [Need, fat, List.nil_append, List.cons_append, List.getD_cons_zero, List.getD_cons_succ, Fct.hold, and_true] at hn
          refine ⟨by simp [wantP, hn], ?_⟩
          simp [execOp, hn, hc, go_sem]
          exact rfl
        apply go_val pre_kept
        · rintro ρ wr ⟨hg, hn, hc, hf, hgl⟩
          simp only [Need, fat, List.nil_append, List.cons_append, List.getD_cons_zero, List.getD_cons_succ, Fct.hold, and_true] at hn
          refine ⟨by simp [wantP, hn], ?_⟩
          simp [execOp, hn, hc, go_sem]
          exact rfl
        apply go_val pre_kept
        · rintro ρ wr ⟨hg, hn, hc, hf, hgl⟩
          simp only [Need, fat, List.nil_append, List.cons_append, List.getD_cons_zero, List.getD_cons_succ, Fct.hold, and_true] at hn
          refine ⟨by simp [wantP, hn], ?_⟩
          simp [execOp, hn, hc, go_sem]
          exact rfl
        apply go_val pre_kept
        · rintro ρ wr ⟨hg, hn, hc, hf, hgl⟩
          simp only [Need, fat, List.nil_append, List.cons_append, List.getD_cons_zero, List.getD_cons_succ, Fct.hold, and_true] at hn
          refine ⟨by simp [wantP, hn], ?_⟩
          simp [execOp, hn, hc, go_sem]
          exact rfl
        refine go_not pre_kept ?_ ?_
        · rintro ρ wr ⟨hg, hn, hc, hf, hgl⟩
          simp only [Need, fat, List.nil_append, List.cons_append, List.getD_cons_zero, List.getD_cons_succ, Fct.hold, and_true] at hn
          simp [wantP, hn]
        refine go_not pre_kept ?_ ?_
        · rintro ρ wr ⟨hg, hn, hc, hf, hgl⟩
          simp only [Need, fat, List.nil_append, List.cons_append, List.getD_cons_zero, List.getD_cons_succ, Fct.hold, and_true] at hn
          simp [wantP, hn]
        apply go_val (x := .bool false) pre_kept
        · rintro ρ wr ⟨hg, hn, hc, hf, hgl⟩
          simp only [Need, fat, List.nil_append, List.cons_append, List.getD_cons_zero, List.getD_cons_succ, Fct.hold, and_true] at hn
          refine ⟨by simp [wantP, hn], ?_⟩
          simp [execOp, hn, hc, go_sem]
        apply go_val (x := .bool false) pre_kept
        · rintro ρ wr ⟨hg, hn, hc, hf, hgl⟩
          simp only [Need, fat, List.nil_append, List.cons_append, List.getD_cons_zero, List.getD_cons_succ, Fct.hold, and_true] at hn
          refine ⟨by simp [wantP, hn], ?_⟩
          simp [execOp, hn, hc, go_sem]
        apply go_val pre_kept
        · rintro ρ wr ⟨hg, hn, hc, hf, hgl⟩
          simp only [Need, fat, List.nil_append, List.cons_append, List.getD_cons_zero, List.getD_cons_succ, Fct.hold, and_true] at hn
          refine ⟨by simp [wantP, hn], ?_⟩
          simp [execOp, hn, hc, go_sem]
          exact rfl
        apply go_val pre_kept
        · rintro ρ wr ⟨hg, hn, hc, hf, hgl⟩
          simp only [Need, fat, List.nil_append, List.cons_append, List.getD_cons_zero, List.getD_cons_succ, Fct.hold, and_true] at hn
          refine ⟨by simp [wantP, hn], ?_⟩
          simp [execOp, hn, hc, go_sem]
          exact rfl
        apply go_val pre_kept
        · rintro ρ wr ⟨hg, hn, hc, hf, hgl⟩
          simp only [Need, fat, List.nil_append, List.cons_append, List.getD_cons_zero, List.getD_cons_succ, Fct.hold, and_true] at hn
          refine ⟨by simp [wantP, hn], ?_⟩
          simp [execOp, hn, hc, go_sem]
          exact rfl
        apply go_val pre_kept
        · rintro ρ wr ⟨hg, hn, hc, hf, hgl⟩
          simp only [Need, fat, List.nil_append, List.cons_append, List.getD_cons_zero, List.getD_cons_succ, Fct.hold, and_true] at hn
          refine ⟨by simp [wantP, hn], ?_⟩
          simp [execOp, hn, hc, go_sem]
          exact rfl
        refine go_call (p := fun u w' => Bs w' u P) (fun _ _ _ h k => k.keep h) ?_ ?_
        · rintro ρ wr ⟨hg, hn, hc, hf, hgl⟩
          simp only [Need, fat, List.nil_append, List.cons_append, List.getD_cons_zero, List.getD_cons_succ, Fct.hold, and_true] at hn
          refine ⟨by simp [wantP, hn], _, _, by simp [execOp, hn, hf, hc, resolve, invoke, go_sem]; exact ⟨rfl, rfl⟩, ?_⟩
          exact (Slice_any _ s m _ y wr (HX2.out.1.kept ((Kept.drew (Kept.refl _)).trans hg)) (by have := HL.out; omega)).mono fun e w' ⟨u, h1, h2, h3⟩ => ⟨u, h1, by rw [HP.out] at h2; exact h2, h3⟩
        apply go_val (x := .string ⟨(P).toArray⟩) pre_kept
        · rintro ρ wr ⟨hg, hn, hc, hf, hgl⟩
          simp only [Need, fat, List.nil_append, List.cons_append, List.getD_cons_zero, List.getD_cons_succ, Fct.hold, and_true] at hn
          refine ⟨by simp [wantP, hn.2], ?_⟩
          have hq := Bs.str (P := Try.prog) hn.1 22 9 5 Try.underlying22 Try.underlying5 Try.underlying9
          simp only [execOp]
          simp [hq, go_sem]
        apply go_val pre_kept
        · rintro ρ wr ⟨hg, hn, hc, hf, hgl⟩
          simp only [Need, fat, List.nil_append, List.cons_append, List.getD_cons_zero, List.getD_cons_succ, Fct.hold, and_true] at hn
          refine ⟨by simp [wantP, hn], ?_⟩
          simp [execOp, hn, hc, go_sem]
          exact rfl
        apply go_val pre_kept
        · rintro ρ wr ⟨hg, hn, hc, hf, hgl⟩
          simp only [Need, fat, List.nil_append, List.cons_append, List.getD_cons_zero, List.getD_cons_succ, Fct.hold, and_true] at hn
          refine ⟨by simp [wantP, hn], ?_⟩
          simp [execOp, hn, hc, go_sem]
          exact rfl
        apply go_val pre_kept
        · rintro ρ wr ⟨hg, hn, hc, hf, hgl⟩
          simp only [Need, fat, List.nil_append, List.cons_append, List.getD_cons_zero, List.getD_cons_succ, Fct.hold, and_true] at hn
          refine ⟨by simp [wantP, hn], ?_⟩
          simp [execOp, hn, hc, go_sem]
          exact rfl
        refine go_call (p := fun u w' => Bs w' u P) (fun _ _ _ h k => k.keep h) ?_ ?_
        · rintro ρ wr ⟨hg, hn, hc, hf, hgl⟩
          simp only [Need, fat, List.nil_append, List.cons_append, List.getD_cons_zero, List.getD_cons_succ, Fct.hold, and_true] at hn
          refine ⟨by simp [wantP, hn], _, _, by simp [execOp, hn, hf, hc, resolve, invoke, go_sem]; exact ⟨rfl, rfl⟩, ?_⟩
          exact (refSlice_any _ s _ y wr (HX2.out.2.keep ((Kept.drew (Kept.refl _)).trans hg)) (by have := HL.out; omega)).mono fun e w' ⟨u, h1, h2, h3⟩ => ⟨u, h1, by rw [HP.out] at h2; exact h2, h3⟩
        apply go_val (x := .string ⟨(P).toArray⟩) pre_kept
        · rintro ρ wr ⟨hg, hn, hc, hf, hgl⟩
          simp only [Need, fat, List.nil_append, List.cons_append, List.getD_cons_zero, List.getD_cons_succ, Fct.hold, and_true] at hn
          refine ⟨by simp [wantP, hn.2], ?_⟩
          have hq := Bs.str (P := Try.prog) hn.1 22 9 5 Try.underlying22 Try.underlying5 Try.underlying9
          simp only [execOp]
          simp [hq, go_sem]
        apply go_val (x := .bool false) pre_kept
        · rintro ρ wr ⟨hg, hn, hc, hf, hgl⟩
          simp only [Need, fat, List.nil_append, List.cons_append, List.getD_cons_zero, List.getD_cons_succ, Fct.hold, and_true] at hn
          refine ⟨by simp [wantP, hn], ?_⟩
          simp [execOp, hn, hc, go_sem]
        apply go_val (x := .bool false) pre_kept
        · rintro ρ wr ⟨hg, hn, hc, hf, hgl⟩
          simp only [Need, fat, List.nil_append, List.cons_append, List.getD_cons_zero, List.getD_cons_succ, Fct.hold, and_true] at hn
          refine ⟨by simp [wantP, hn], ?_⟩
          simp [execOp, hn, hc, go_sem]
        intro w2 hk2
        simp only [Post, List.nil_append, List.cons_append, Act.put, List.setIfInBounds_toArray, List.set_cons_zero, List.set_cons_succ]
        intro u45 h45 u51 h51
        clear h45 h51
        rename_i K hK
        refine hK _ _ ?_
        clear hK K
        have HZ := Lib.hid (And.intro (HX2.out.1.kept ((Kept.drew (Kept.refl _)).trans hk2)) (And.intro (HX2.out.2.keep ((Kept.drew (Kept.refl _)).trans hk2)) (HY.out.2.2.trans ((Kept.drew (Kept.refl _)).trans hk2))))
        clear hk2
        rename_i w6 w7
        by_cases hlt2 : j < l.length
        · have y2 : (j : Int) < l.length := by omega
          have q0 : (0 : Int) ≤ j := by omega
          obtain ⟨⟨at', del, ins⟩, hz⟩ : ∃ z, l[j]? = some z := ⟨_, List.getElem?_eq_getElem hlt2⟩
          obtain ⟨al, rfl, hsp⟩ := HEL.out j _ hz
          obtain ⟨B, o, eB, f0, f1, s3, f2, hbs⟩ := hsp
          obtain ⟨A6, c6, rfl⟩ := hbs.form
          have HBW := Lib.hid hbs
          simp only at f0 f1 f2
          have HF := Lib.hid (And.intro f0 (And.intro f1 f2))
          have e0 := HZ.out.2.2.cell f0
          have e1 := HZ.out.2.2.cell f1
          have e2 := HZ.out.2.2.cell f2
          clear hz hbs f0 f1 f2
          by_cases h500 : ins.length ≤ 500
          · have y3 : ¬ (ins.length : Int) > 500 := by omega
            go_wp2_with fail
            refine (Splice_any _ s m at' del _ ins _ HZ.out.1 (HBW.out.keep HZ.out.2.2) (by have := HL.out; omega) (by omega)).mono ?_
            rintro e w8 ⟨u8, rfl, h8, k8⟩
            have H8 := Lib.hid (And.intro h8 (And.intro (HZ.out.2.1.gm (rp_mk HZ.out.1) k8) (HZ.out.2.2.above k8 K2.out.2)))
            obtain ⟨g8, root8, rfl, -⟩ := h8
            clear k8 e0 e1 e2
            have e0 := H8.out.2.2.cell HF.out.1
            have e1 := H8.out.2.2.cell HF.out.2.1
            have e2 := H8.out.2.2.cell HF.out.2.2
            unfold ptr
            go_wp2_with fail
            refine (refdo_any _ _ _ at' del _ s ins w8 H8.out.2.1 (HBW.out.keep H8.out.2.2) (by have := HL.out; omega) (by omega)).mono ?_
            rintro e w9 ⟨u9, rfl, h9, k9⟩
            obtain ⟨T, hT⟩ : ∃ T, doL s at' del ins = T := ⟨_, rfl⟩
            have h9' : Bs w9 u9 T := by rw [← hT]; exact h9
            have H9 : Hid (Rp w9 (.pointer (some ⟨g8, 0, none⟩)) T m ∧ Bs w9 u9 T ∧ Kept w w9) := Lib.hid ⟨by rw [← hT]; exact H8.out.1.kept k9, h9', H8.out.2.2.trans k9⟩
            have HTT := Lib.hid hT
            obtain ⟨A9, c9, rfl⟩ := h9'.form
            clear h9 h9' k9 e0 e1 e2 hT
            go_wp2_with fail
            go_roundw
            case rel => exact ⟨j + 1, T, by go_num, by omega, by have := doL_le s at' del ins; rw [HTT.out] at this; have := HL.out; omega, H9.out.1, H9.out.2.1, H9.out.2.2⟩
            case measure => simp [intOf]; omega
          · have y3 : (ins.length : Int) > 500 := by omega
            go_wp2_with fail
            go_ret
            exact ⟨rfl, HZ.out.2.2⟩
        · have y2 : ¬ (j : Int) < l.length := by omega
          go_wp2_with fail
          go_roundw
          case rel => exact ⟨j + 1, s, by go_num, by omega, by have := HL.out; omega, HZ.out.1, HZ.out.2.1, HZ.out.2.2⟩
          case measure => simp [intOf]; omega

      · by_cases hneg : x < 0
        · have HBY := Lib.hid (byte_none _ s m x _ HY.out.1 (.inl hneg))
          have hx0 : ¬ (0 : Int) ≤ x := by omega
          have hx1 : decide ((0 : Int) ≤ x) = false := by simp; omega
          clear hin
          obtain ⟨P, hP⟩ : ∃ P, (s.take (max (max 0 (min x s.length)) (min y s.length)).toNat).drop (max 0 (min x s.length)).toNat = P := ⟨_, rfl⟩
          have HP := Lib.hid hP
          have HX2 := Lib.hid (And.intro HY.out.1 HY.out.2.1)
          clear hP
          refine HBY.out.mono ?_
          rintro e w6 ⟨rfl, rfl⟩
          go_wp2_with fail
          refine wp_region_go Kept pre_kept [([(14, none)], none), ([(15, none)], none), ([(94, some 0), (95, some 1)], none), ([(96, some 2)], none), ([(15, none), (97, some 3)], some (97, false)), ([(98, some 4), (97, some 3)], some (97, false)), ([(13, none), (99, some 5)], some (99, true)), ([(11, none), (99, some 5)], some (99, true)), ([(2, none), (99, some 5)], some (99, true)), ([(101, some 7), (102, some 8), (99, some 5)], some (99, true)), ([(103, some 9), (99, some 5)], some (99, true)), ([(100, some 6), (104, some 10), (99, some 5)], some (99, true)), ([(99, some 5), (105, some 11), (97, some 3)], some (97, false)), ([(97, some 3), (106, some 12)], none), ([(107, some 13)], none), ([(15, none), (108, some 14)], some (108, false)), ([(109, some 15), (108, some 14)], some (108, false)), ([(110, some 16), (108, some 14)], some (108, false)), ([(13, none), (111, some 17)], some (111, true)), ([(112, some 18), (111, some 17)], some (111, true)), ([(111, some 17), (113, some 19), (108, some 14)], some (108, false)), ([(108, some 14), (114, some 20)], none), ([(115, some 21)], none), ([(10, none), (116, some 22)], some (116, false)), ([(2, none), (116, some 22)], some (116, false)), ([(3, none), (116, some 22)], some (116, false)), ([(117, some 23), (118, some 24), (119, some 25), (116, some 22)], some (116, false)), ([(120, some 26), (116, some 22)], some (116, false)), ([(11, none), (116, some 22)], some (116, false)), ([(2, none), (116, some 22)], some (116, false)), ([(3, none), (116, some 22)], some (116, false)), ([(122, some 28), (123, some 29), (124, some 30), (116, some 22)], some (116, false)), ([(125, some 31), (116, some 22)], some (116, false)), ([(121, some 27), (126, some 32), (116, some 22)], some (116, false)), ([(116, some 22), (127, some 33)], none)] (by kernel_rfl) 152 rfl (by kernel_rfl) (by kernel_rfl) ?_
          apply go_val pre_kept
          · rintro ρ wr ⟨hg, hn, hc, hf, hgl⟩
            simp only [Need, fat, List.nil_append, List.cons_append, List.getD_cons_zero, List.getD_cons_succ, Fct.hold, and_true] at hn
            refine ⟨by simp [wantP, hn], ?_⟩
            simp [execOp, hn, hc, go_sem]
            exact rfl
          apply go_val pre_kept
          · rintro ρ wr ⟨hg, hn, hc, hf, hgl⟩
            simp only [Need, fat, List.nil_append, List.cons_append, List.getD_cons_zero, List.getD_cons_succ, Fct.hold, and_true] at hn
            refine ⟨by simp [wantP, hn], ?_⟩
            simp [execOp, hn, hc, go_sem]
            exact rfl
          apply go_val (x := .bool false) pre_kept
          · rintro ρ wr ⟨hg, hn, hc, hf, hgl⟩
            simp only [Need, fat, List.nil_append, List.cons_append, List.getD_cons_zero, List.getD_cons_succ, Fct.hold, and_true] at hn
            refine ⟨by simp [wantP, hn], ?_⟩
            simp [execOp, hn, hc, go_sem]
          apply go_val pre_kept
          · rintro ρ wr ⟨hg, hn, hc, hf, hgl⟩
            simp only [Need, fat, List.nil_append, List.cons_append, List.getD_cons_zero, List.getD_cons_succ, Fct.hold, and_true] at hn
            refine ⟨by simp [wantP, hn], ?_⟩
            simp [execOp, hn, hc, go_sem]
            exact rfl
          apply go_val pre_kept
          · rintro ρ wr ⟨hg, hn, hc, hf, hgl⟩
            simp only [Need, fat, List.nil_append, List.cons_append, List.getD_cons_zero, List.getD_cons_succ, Fct.hold, and_true] at hn
            refine ⟨by simp [wantP, hn], ?_⟩
            simp [execOp, hn, hc, go_sem]
            exact rfl
          apply go_val pre_kept
          · rintro ρ wr ⟨hg, hn, hc, hf, hgl⟩
            simp only [Need, fat, List.nil_append, List.cons_append, List.getD_cons_zero, List.getD_cons_succ, Fct.hold, and_true] at hn
            refine ⟨by simp [wantP, hn], ?_⟩
            simp [execOp, hn, hc, go_sem]
            exact rfl
          refine go_not pre_kept ?_ ?_
          · rintro ρ wr ⟨hg, hn, hc, hf, hgl⟩
            simp only [Need, fat, List.nil_append, List.cons_append, List.getD_cons_zero, List.getD_cons_succ, Fct.hold, and_true] at hn
            simp [wantP, hn]
          refine go_not pre_kept ?_ ?_
          · rintro ρ wr ⟨hg, hn, hc, hf, hgl⟩
            simp only [Need, fat, List.nil_append, List.cons_append, List.getD_cons_zero, List.getD_cons_succ, Fct.hold, and_true] at hn
            simp [wantP, hn]
          refine go_not pre_kept ?_ ?_
          · rintro ρ wr ⟨hg, hn, hc, hf, hgl⟩
            simp only [Need, fat, List.nil_append, List.cons_append, List.getD_cons_zero, List.getD_cons_succ, Fct.hold, and_true] at hn
            simp [wantP, hn]
          refine go_not pre_kept ?_ ?_
          · rintro ρ wr ⟨hg, hn, hc, hf, hgl⟩
            simp only [Need, fat, List.nil_append, List.cons_append, List.getD_cons_zero, List.getD_cons_succ, Fct.hold, and_true] at hn
            simp [wantP, hn]
          refine go_not pre_kept ?_ ?_
          · rintro ρ wr ⟨hg, hn, hc, hf, hgl⟩
            simp only [Need, fat, List.nil_append, List.cons_append, List.getD_cons_zero, List.getD_cons_succ, Fct.hold, and_true] at hn
            simp [wantP, hn]
          refine go_not pre_kept ?_ ?_
          · rintro ρ wr ⟨hg, hn, hc, hf, hgl⟩
            simp only [Need, fat, List.nil_append, List.cons_append, List.getD_cons_zero, List.getD_cons_succ, Fct.hold, and_true] at hn
            simp [wantP, hn]
          apply go_val (x := .bool false) pre_kept
          · rintro ρ wr ⟨hg, hn, hc, hf, hgl⟩
            simp only [Need, fat, List.nil_append, List.cons_append, List.getD_cons_zero, List.getD_cons_succ, Fct.hold, and_true] at hn
            refine ⟨by simp [wantP, hn], ?_⟩
            simp [execOp, hn, hc, go_sem]
          apply go_val (x := .bool false) pre_kept
          · rintro ρ wr ⟨hg, hn, hc, hf, hgl⟩
            simp only [Need, fat, List.nil_append, List.cons_append, List.getD_cons_zero, List.getD_cons_succ, Fct.hold, and_true] at hn
            refine ⟨by simp [wantP, hn], ?_⟩
            simp [execOp, hn, hc, go_sem]
          apply go_val pre_kept
          · rintro ρ wr ⟨hg, hn, hc, hf, hgl⟩
            simp only [Need, fat, List.nil_append, List.cons_append, List.getD_cons_zero, List.getD_cons_succ, Fct.hold, and_true] at hn
            refine ⟨by simp [wantP, hn], ?_⟩
            simp [execOp, hn, hc, go_sem]
            exact rfl
          apply go_val pre_kept
          · rintro ρ wr ⟨hg, hn, hc, hf, hgl⟩
            simp only [Need, fat, List.nil_append, List.cons_append, List.getD_cons_zero, List.getD_cons_succ, Fct.hold, and_true] at hn
            refine ⟨by simp [wantP, hn], ?_⟩
            simp [execOp, hn, hc, go_sem]
            exact rfl
          apply go_val pre_kept
          · rintro ρ wr ⟨hg, hn, hc, hf, hgl⟩
            simp only [Need, fat, List.nil_append, List.cons_append, List.getD_cons_zero, List.getD_cons_succ, Fct.hold, and_true] at hn
            refine ⟨by simp [wantP, hn], ?_⟩
            simp [execOp, hn, hc, go_sem]
            exact rfl
          apply go_val pre_kept
          · rintro ρ wr ⟨hg, hn, hc, hf, hgl⟩
            simp only [Need, fat, List.nil_append, List.cons_append, List.getD_cons_zero, List.getD_cons_succ, Fct.hold, and_true] at hn
            refine ⟨by simp [wantP, hn], ?_⟩
            simp [execOp, hn, hc, go_sem]
            exact rfl
          apply go_val pre_kept
          · rintro ρ wr ⟨hg, hn, hc, hf, hgl⟩
            simp only [Need, fat, List.nil_append, List.cons_append, List.getD_cons_zero, List.getD_cons_succ, Fct.hold, and_true] at hn
            refine ⟨by simp [wantP, hn], ?_⟩
            simp [execOp, hn, hc, go_sem]
            exact rfl
          apply go_val (x := .bool false) pre_kept
          · rintro ρ wr ⟨hg, hn, hc, hf, hgl⟩
            simp only [Need, fat, List.nil_append, List.cons_append, List.getD_cons_zero, List.getD_cons_succ, Fct.hold, and_true] at hn
            refine ⟨by simp [wantP, hn], ?_⟩
            simp [execOp, hn, hc, go_sem]
          apply go_val (x := .bool false) pre_kept
          · rintro ρ wr ⟨hg, hn, hc, hf, hgl⟩
            simp only [Need, fat, List.nil_append, List.cons_append, List.getD_cons_zero, List.getD_cons_succ, Fct.hold, and_true] at hn
            refine ⟨by simp [wantP, hn], ?_⟩
            simp [execOp, hn, hc, go_sem]
          apply go_val (x := .bool false) pre_kept
          · rintro ρ wr ⟨hg, hn, hc, hf, hgl⟩
            simp only [Need, fat, List.nil_append, List.cons_append, List.getD_cons_zero, List.getD_cons_succ, Fct.hold, and_true] at hn
            refine ⟨by simp [wantP, hn], ?_⟩
            simp [execOp, hn, hc, go_sem]
          apply go_val pre_kept
          · rintro ρ wr ⟨hg, hn, hc, hf, hgl⟩
            simp only [Need, fat, List.nil_append, List.cons_append, List.getD_cons_zero, List.getD_cons_succ, Fct.hold, and_true] at hn
            refine ⟨by simp [wantP, hn], ?_⟩
            simp [execOp, hn, hc, go_sem]
            exact rfl
          apply go_val pre_kept
          · rintro ρ wr ⟨hg, hn, hc, hf, hgl⟩
            simp only [Need, fat, List.nil_append, List.cons_append, List.getD_cons_zero, List.getD_cons_succ, Fct.hold, and_true] at hn
            refine ⟨by simp [wantP, hn], ?_⟩
            simp [execOp, hn, hc, go_sem]
            exact rfl
          apply go_val pre_kept
          · rintro ρ wr ⟨hg, hn, hc, hf, hgl⟩
            simp only [Need, fat, List.nil_append, List.cons_append, List.getD_cons_zero, List.getD_cons_succ, Fct.hold, and_true] at hn
            refine ⟨by simp [wantP, hn], ?_⟩
            simp [execOp, hn, hc, go_sem]
            exact rfl
          apply go_val pre_kept
          · rintro ρ wr ⟨hg, hn, hc, hf, hgl⟩
            simp only [Need, fat, List.nil_append, List.cons_append, List.getD_cons_zero, List.getD_cons_succ, Fct.hold, and_true] at hn
            refine ⟨by simp [wantP, hn], ?_⟩
            simp [execOp, hn, hc, go_sem]
            exact rfl
          refine go_call (p := fun u w' => Bs w' u P) (fun _ _ _ h k => k.keep h) ?_ ?_
          · rintro ρ wr ⟨hg, hn, hc, hf, hgl⟩
            simp only [Need, fat, List.nil_append, List.cons_append, List.getD_cons_zero, List.getD_cons_succ, Fct.hold, and_true] at hn
            refine ⟨by simp [wantP, hn], _, _, by simp [execOp, hn, hf, hc, resolve, invoke, go_sem]; exact ⟨rfl, rfl⟩, ?_⟩
            exact (Slice_any _ s m _ y wr (HX2.out.1.kept ((Kept.drew (Kept.refl _)).trans hg)) (by have := HL.out; omega)).mono fun e w' ⟨u, h1, h2, h3⟩ => ⟨u, h1, by rw [HP.out] at h2; exact h2, h3⟩
          apply go_val (x := .string ⟨(P).toArray⟩) pre_kept
          · rintro ρ wr ⟨hg, hn, hc, hf, hgl⟩
            simp only [Need, fat, List.nil_append, List.cons_append, List.getD_cons_zero, List.getD_cons_succ, Fct.hold, and_true] at hn
            refine ⟨by simp [wantP, hn.2], ?_⟩
            have hq := Bs.str (P := Try.prog) hn.1 22 9 5 Try.underlying22 Try.underlying5 Try.underlying9
            simp only [execOp]
            simp [hq, go_sem]
          apply go_val pre_kept
          · rintro ρ wr ⟨hg, hn, hc, hf, hgl⟩
            simp only [Need, fat, List.nil_append, List.cons_append, List.getD_cons_zero, List.getD_cons_succ, Fct.hold, and_true] at hn
            refine ⟨by simp [wantP, hn], ?_⟩
            simp [execOp, hn, hc, go_sem]
            exact rfl
          apply go_val pre_kept
          · rintro ρ wr ⟨hg, hn, hc, hf, hgl⟩
            simp only [Need, fat, List.nil_append, List.cons_append, List.getD_cons_zero, List.getD_cons_succ, Fct.hold, and_true] at hn
            refine ⟨by simp [wantP, hn], ?_⟩
            simp [execOp, hn, hc, go_sem]
            exact rfl
          apply go_val pre_kept
          · rintro ρ wr ⟨hg, hn, hc, hf, hgl⟩
            simp only [Need, fat, List.nil_append, List.cons_append, List.getD_cons_zero, List.getD_cons_succ, Fct.hold, and_true] at hn
            refine ⟨by simp [wantP, hn], ?_⟩
            simp [execOp, hn, hc, go_sem]
            exact rfl
          refine go_call (p := fun u w' => Bs w' u P) (fun _ _ _ h k => k.keep h) ?_ ?_
          · rintro ρ wr ⟨hg, hn, hc, hf, hgl⟩
            simp only [Need, fat, List.nil_append, List.cons_append, List.getD_cons_zero, List.getD_cons_succ, Fct.hold, and_true] at hn
            refine ⟨by simp [wantP, hn], _, _, by simp [execOp, hn, hf, hc, resolve, invoke, go_sem]; exact ⟨rfl, rfl⟩, ?_⟩
            exact (refSlice_any _ s _ y wr (HX2.out.2.keep ((Kept.drew (Kept.refl _)).trans hg)) (by have := HL.out; omega)).mono fun e w' ⟨u, h1, h2, h3⟩ => ⟨u, h1, by rw [HP.out] at h2; exact h2, h3⟩
          apply go_val (x := .string ⟨(P).toArray⟩) pre_kept
          · rintro ρ wr ⟨hg, hn, hc, hf, hgl⟩
            simp only [Need, fat, List.nil_append, List.cons_append, List.getD_cons_zero, List.getD_cons_succ, Fct.hold, and_true] at hn
            refine ⟨by simp [wantP, hn.2], ?_⟩
            have hq := Bs.str (P := Try.prog) hn.1 22 9 5 Try.underlying22 Try.underlying5 Try.underlying9
            simp only [execOp]
            simp [hq, go_sem]
          apply go_val (x := .bool false) pre_kept
          · rintro ρ wr ⟨hg, hn, hc, hf, hgl⟩
            simp only [Need, fat, List.nil_append, List.cons_append, List.getD_cons_zero, List.getD_cons_succ, Fct.hold, and_true] at hn
            refine ⟨by simp [wantP, hn], ?_⟩
            simp [execOp, hn, hc, go_sem]
          apply go_val (x := .bool false) pre_kept
          · rintro ρ wr ⟨hg, hn, hc, hf, hgl⟩
            simp only [Need, fat, List.nil_append, List.cons_append, List.getD_cons_zero, List.getD_cons_succ, Fct.hold, and_true] at hn
            refine ⟨by simp [wantP, hn], ?_⟩
            simp [execOp, hn, hc, go_sem]
          intro w2 hk2
          simp only [Post, List.nil_append, List.cons_append, Act.put, List.setIfInBounds_toArray, List.set_cons_zero, List.set_cons_succ]
          intro u45 h45 u51 h51
          clear h45 h51
          rename_i K hK
          refine hK _ _ ?_
          clear hK K
          have HZ := Lib.hid (And.intro (HX2.out.1.kept ((Kept.drew (Kept.refl _)).trans hk2)) (And.intro (HX2.out.2.keep ((Kept.drew (Kept.refl _)).trans hk2)) (HY.out.2.2.trans ((Kept.drew (Kept.refl _)).trans hk2))))
          clear hk2
          rename_i w6 w7
          by_cases hlt2 : j < l.length
          · have y2 : (j : Int) < l.length := by omega
            have q0 : (0 : Int) ≤ j := by omega
            obtain ⟨⟨at', del, ins⟩, hz⟩ : ∃ z, l[j]? = some z := ⟨_, List.getElem?_eq_getElem hlt2⟩
            obtain ⟨al, rfl, hsp⟩ := HEL.out j _ hz
            obtain ⟨B, o, eB, f0, f1, s3, f2, hbs⟩ := hsp
            obtain ⟨A6, c6, rfl⟩ := hbs.form
            have HBW := Lib.hid hbs
            simp only at f0 f1 f2
            have HF := Lib.hid (And.intro f0 (And.intro f1 f2))
            have e0 := HZ.out.2.2.cell f0
            have e1 := HZ.out.2.2.cell f1
            have e2 := HZ.out.2.2.cell f2
            clear hz hbs f0 f1 f2
            by_cases h500 : ins.length ≤ 500
            · have y3 : ¬ (ins.length : Int) > 500 := by omega
              go_wp2_with fail
              refine (Splice_any _ s m at' del _ ins _ HZ.out.1 (HBW.out.keep HZ.out.2.2) (by have := HL.out; omega) (by omega)).mono ?_
              rintro e w8 ⟨u8, rfl, h8, k8⟩
              have H8 := Lib.hid (And.intro h8 (And.intro (HZ.out.2.1.gm (rp_mk HZ.out.1) k8) (HZ.out.2.2.above k8 K2.out.2)))
              obtain ⟨g8, root8, rfl, -⟩ := h8
              clear k8 e0 e1 e2
              have e0 := H8.out.2.2.cell HF.out.1
              have e1 := H8.out.2.2.cell HF.out.2.1
              have e2 := H8.out.2.2.cell HF.out.2.2
              unfold ptr
              go_wp2_with fail
              refine (refdo_any _ _ _ at' del _ s ins w8 H8.out.2.1 (HBW.out.keep H8.out.2.2) (by have := HL.out; omega) (by omega)).mono ?_
              rintro e w9 ⟨u9, rfl, h9, k9⟩
              obtain ⟨T, hT⟩ : ∃ T, doL s at' del ins = T := ⟨_, rfl⟩
              have h9' : Bs w9 u9 T := by rw [← hT]; exact h9
              have H9 : Hid (Rp w9 (.pointer (some ⟨g8, 0, none⟩)) T m ∧ Bs w9 u9 T ∧ Kept w w9) := Lib.hid ⟨by rw [← hT]; exact H8.out.1.kept k9, h9', H8.out.2.2.trans k9⟩
              have HTT := Lib.hid hT
              obtain ⟨A9, c9, rfl⟩ := h9'.form
              clear h9 h9' k9 e0 e1 e2 hT
              go_wp2_with fail
              go_roundw
              case rel => exact ⟨j + 1, T, by go_num, by omega, by have := doL_le s at' del ins; rw [HTT.out] at this; have := HL.out; omega, H9.out.1, H9.out.2.1, H9.out.2.2⟩
              case measure => simp [intOf]; omega
            · have y3 : (ins.length : Int) > 500 := by omega
              go_wp2_with fail
              go_ret
              exact ⟨rfl, HZ.out.2.2⟩
          · have y2 : ¬ (j : Int) < l.length := by omega
            go_wp2_with fail
            go_roundw
            case rel => exact ⟨j + 1, s, by go_num, by omega, by have := HL.out; omega, HZ.out.1, HZ.out.2.1, HZ.out.2.2⟩
            case measure => simp [intOf]; omega

        · have hge : (s.length : Int) ≤ x := by omega
          have HBY := Lib.hid (byte_none _ s m x _ HY.out.1 (.inr hge))
          have hx0 : (0 : Int) ≤ x := by omega
          have hx2 : ¬ x < s.length := by omega
          have hx3 : decide (x < (s.length : Int)) = false := by simp; omega
          clear hin hneg
          obtain ⟨P, hP⟩ : ∃ P, (s.take (max (max 0 (min x s.length)) (min y s.length)).toNat).drop (max 0 (min x s.length)).toNat = P := ⟨_, rfl⟩
          have HP := Lib.hid hP
          have HX2 := Lib.hid (And.intro HY.out.1 HY.out.2.1)
          clear hP
          refine HBY.out.mono ?_
          rintro e w6 ⟨rfl, rfl⟩
          go_wp2_with fail
          refine wp_region_go Kept pre_kept [([(14, none)], none), ([(15, none)], none), ([(94, some 0), (95, some 1)], none), ([(96, some 2)], none), ([(15, none), (97, some 3)], some (97, false)), ([(98, some 4), (97, some 3)], some (97, false)), ([(13, none), (99, some 5)], some (99, true)), ([(11, none), (99, some 5)], some (99, true)), ([(2, none), (99, some 5)], some (99, true)), ([(101, some 7), (102, some 8), (99, some 5)], some (99, true)), ([(103, some 9), (99, some 5)], some (99, true)), ([(100, some 6), (104, some 10), (99, some 5)], some (99, true)), ([(99, some 5), (105, some 11), (97, some 3)], some (97, false)), ([(97, some 3), (106, some 12)], none), ([(107, some 13)], none), ([(15, none), (108, some 14)], some (108, false)), ([(109, some 15), (108, some 14)], some (108, false)), ([(110, some 16), (108, some 14)], some (108, false)), ([(13, none), (111, some 17)], some (111, true)), ([(112, some 18), (111, some 17)], some (111, true)), ([(111, some 17), (113, some 19), (108, some 14)], some (108, false)), ([(108, some 14), (114, some 20)], none), ([(115, some 21)], none), ([(10, none), (116, some 22)], some (116, false)), ([(2, none), (116, some 22)], some (116, false)), ([(3, none), (116, some 22)], some (116, false)), ([(117, some 23), (118, some 24), (119, some 25), (116, some 22)], some (116, false)), ([(120, some 26), (116, some 22)], some (116, false)), ([(11, none), (116, some 22)], some (116, false)), ([(2, none), (116, some 22)], some (116, false)), ([(3, none), (116, some 22)], some (116, false)), ([(122, some 28), (123, some 29), (124, some 30), (116, some 22)], some (116, false)), ([(125, some 31), (116, some 22)], some (116, false)), ([(121, some 27), (126, some 32), (116, some 22)], some (116, false)), ([(116, some 22), (127, some 33)], none)] (by kernel_rfl) 152 rfl (by kernel_rfl) (by kernel_rfl) ?_
          apply go_val pre_kept
          · rintro ρ wr ⟨hg, hn, hc, hf, hgl⟩
            simp only [Need, fat, List.nil_append, List.cons_append, List.getD_cons_zero, List.getD_cons_succ, Fct.hold, and_true] at hn
            refine ⟨by simp [wantP, hn], ?_⟩
            simp [execOp, hn, hc, go_sem]
            exact rfl
          apply go_val pre_kept
          · rintro ρ wr ⟨hg, hn, hc, hf, hgl⟩
            simp only [Need, fat, List.nil_append, List.cons_append, List.getD_cons_zero, List.getD_cons_succ, Fct.hold, and_true] at hn
            refine ⟨by simp [wantP, hn], ?_⟩
            simp [execOp, hn, hc, go_sem]
            exact rfl
          apply go_val (x := .bool false) pre_kept
          · rintro ρ wr ⟨hg, hn, hc, hf, hgl⟩
            simp only [Need, fat, List.nil_append, List.cons_append, List.getD_cons_zero, List.getD_cons_succ, Fct.hold, and_true] at hn
            refine ⟨by simp [wantP, hn], ?_⟩
            simp [execOp, hn, hc, go_sem]
          apply go_val pre_kept
          · rintro ρ wr ⟨hg, hn, hc, hf, hgl⟩
            simp only [Need, fat, List.nil_append, List.cons_append, List.getD_cons_zero, List.getD_cons_succ, Fct.hold, and_true] at hn
            refine ⟨by simp [wantP, hn], ?_⟩
            simp [execOp, hn, hc, go_sem]
            exact rfl
          apply go_val pre_kept
          · rintro ρ wr ⟨hg, hn, hc, hf, hgl⟩
            simp only [Need, fat, List.nil_append, List.cons_append, List.getD_cons_zero, List.getD_cons_succ, Fct.hold, and_true] at hn
            refine ⟨by simp [wantP, hn], ?_⟩
            simp [execOp, hn, hc, go_sem]
            exact rfl
          apply go_val pre_kept
          · rintro ρ wr ⟨hg, hn, hc, hf, hgl⟩
            simp only [Need, fat, List.nil_append, List.cons_append, List.getD_cons_zero, List.getD_cons_succ, Fct.hold, and_true] at hn
            refine ⟨by simp [wantP, hn], ?_⟩
            simp [execOp, hn, hc, go_sem]
            exact rfl
          refine go_not pre_kept ?_ ?_
          · rintro ρ wr ⟨hg, hn, hc, hf, hgl⟩
            simp only [Need, fat, List.nil_append, List.cons_append, List.getD_cons_zero, List.getD_cons_succ, Fct.hold, and_true] at hn
            simp [wantP, hn]
          refine go_not pre_kept ?_ ?_
          · rintro ρ wr ⟨hg, hn, hc, hf, hgl⟩
            simp only [Need, fat, List.nil_append, List.cons_append, List.getD_cons_zero, List.getD_cons_succ, Fct.hold, and_true] at hn
            simp [wantP, hn]
          refine go_not pre_kept ?_ ?_
          · rintro ρ wr ⟨hg, hn, hc, hf, hgl⟩
            simp only [Need, fat, List.nil_append, List.cons_append, List.getD_cons_zero, List.getD_cons_succ, Fct.hold, and_true] at hn
            simp [wantP, hn]
          refine go_not pre_kept ?_ ?_
          · rintro ρ wr ⟨hg, hn, hc, hf, hgl⟩
            simp only [Need, fat, List.nil_append, List.cons_append, List.getD_cons_zero, List.getD_cons_succ, Fct.hold, and_true] at hn
            simp [wantP, hn]
          refine go_not pre_kept ?_ ?_
          · rintro ρ wr ⟨hg, hn, hc, hf, hgl⟩
            simp only [Need, fat, List.nil_append, List.cons_append, List.getD_cons_zero, List.getD_cons_succ, Fct.hold, and_true] at hn
            simp [wantP, hn]
          refine go_not pre_kept ?_ ?_
          · rintro ρ wr ⟨hg, hn, hc, hf, hgl⟩
            simp only [Need, fat, List.nil_append, List.cons_append, List.getD_cons_zero, List.getD_cons_succ, Fct.hold, and_true] at hn
            simp [wantP, hn]
          apply go_val (x := .bool false) pre_kept
          · rintro ρ wr ⟨hg, hn, hc, hf, hgl⟩
            simp only [Need, fat, List.nil_append, List.cons_append, List.getD_cons_zero, List.getD_cons_succ, Fct.hold, and_true] at hn
            refine ⟨by simp [wantP, hn], ?_⟩
            simp [execOp, hn, hc, go_sem]
          apply go_val (x := .bool false) pre_kept
          · rintro ρ wr ⟨hg, hn, hc, hf, hgl⟩
            simp only [Need, fat, List.nil_append, List.cons_append, List.getD_cons_zero, List.getD_cons_succ, Fct.hold, and_true] at hn
            refine ⟨by simp [wantP, hn], ?_⟩
            simp [execOp, hn, hc, go_sem]
          apply go_val pre_kept
          · rintro ρ wr ⟨hg, hn, hc, hf, hgl⟩
            simp only [Need, fat, List.nil_append, List.cons_append, List.getD_cons_zero, List.getD_cons_succ, Fct.hold, and_true] at hn
            refine ⟨by simp [wantP, hn], ?_⟩
            simp [execOp, hn, hc, go_sem]
            exact rfl
          apply go_val pre_kept
          · rintro ρ wr ⟨hg, hn, hc, hf, hgl⟩
            simp only [Need, fat, List.nil_append, List.cons_append, List.getD_cons_zero, List.getD_cons_succ, Fct.hold, and_true] at hn
            refine ⟨by simp [wantP, hn], ?_⟩
            simp [execOp, hn, hc, go_sem]
            exact rfl
          apply go_val pre_kept
          · rintro ρ wr ⟨hg, hn, hc, hf, hgl⟩
            simp only [Need, fat, List.nil_append, List.cons_append, List.getD_cons_zero, List.getD_cons_succ, Fct.hold, and_true] at hn
            refine ⟨by simp [wantP, hn], ?_⟩
            simp [execOp, hn, hc, go_sem]
            exact rfl
          apply go_val pre_kept
          · rintro ρ wr ⟨hg, hn, hc, hf, hgl⟩
            simp only [Need, fat, List.nil_append, List.cons_append, List.getD_cons_zero, List.getD_cons_succ, Fct.hold, and_true] at hn
            refine ⟨by simp [wantP, hn], ?_⟩
            simp [execOp, hn, hc, go_sem]
            exact rfl
          apply go_val pre_kept
          · rintro ρ wr ⟨hg, hn, hc, hf, hgl⟩
            simp only [Need, fat, List.nil_append, List.cons_append, List.getD_cons_zero, List.getD_cons_succ, Fct.hold, and_true] at hn
            refine ⟨by simp [wantP, hn], ?_⟩
            simp [execOp, hn, hc, go_sem]
            exact rfl
          apply go_val (x := .bool false) pre_kept
          · rintro ρ wr ⟨hg, hn, hc, hf, hgl⟩
            simp only [Need, fat, List.nil_append, List.cons_append, List.getD_cons_zero, List.getD_cons_succ, Fct.hold, and_true] at hn
            refine ⟨by simp [wantP, hn], ?_⟩
            simp [execOp, hn, hc, go_sem]
          apply go_val (x := .bool false) pre_kept
          · rintro ρ wr ⟨hg, hn, hc, hf, hgl⟩
            simp only [Need, fat, List.nil_append, List.cons_append, List.getD_cons_zero, List.getD_cons_succ, Fct.hold, and_true] at hn
            refine ⟨by simp [wantP, hn], ?_⟩
            simp [execOp, hn, hc, go_sem]
          apply go_val (x := .bool false) pre_kept
          · rintro ρ wr ⟨hg, hn, hc, hf, hgl⟩
            simp only [Need, fat, List.nil_append, List.cons_append, List.getD_cons_zero, List.getD_cons_succ, Fct.hold, and_true] at hn
            refine ⟨by simp [wantP, hn], ?_⟩
            simp [execOp, hn, hc, go_sem]
          apply go_val pre_kept
          · rintro ρ wr ⟨hg, hn, hc, hf, hgl⟩
            simp only [Need, fat, List.nil_append, List.cons_append, List.getD_cons_zero, List.getD_cons_succ, Fct.hold, and_true] at hn
            refine ⟨by simp [wantP, hn], ?_⟩
            simp [execOp, hn, hc, go_sem]
            exact rfl
          apply go_val pre_kept
          · rintro ρ wr ⟨hg, hn, hc, hf, hgl⟩
            simp only [Need, fat, List.nil_append, List.cons_append, List.getD_cons_zero, List.getD_cons_succ, Fct.hold, and_true] at hn
            refine ⟨by simp [wantP, hn], ?_⟩
            simp [execOp, hn, hc, go_sem]
            exact rfl
          apply go_val pre_kept
          · rintro ρ wr ⟨hg, hn, hc, hf, hgl⟩
            simp only [Need, fat, List.nil_append, List.cons_append, List.getD_cons_zero, List.getD_cons_succ, Fct.hold, and_true] at hn
            refine ⟨by simp [wantP, hn], ?_⟩
            simp [execOp, hn, hc, go_sem]
            exact rfl
          apply go_val pre_kept
          · rintro ρ wr ⟨hg, hn, hc, hf, hgl⟩
            simp only [Need, fat, List.nil_append, List.cons_append, List.getD_cons_zero, List.getD_cons_succ, Fct.hold, and_true] at hn
            refine ⟨by simp [wantP, hn], ?_⟩
            simp [execOp, hn, hc, go_sem]
            exact rfl
          refine go_call (p := fun u w' => Bs w' u P) (fun _ _ _ h k => k.keep h) ?_ ?_
          · rintro ρ wr ⟨hg, hn, hc, hf, hgl⟩
            simp only [Need, fat, List.nil_append, List.cons_append, List.getD_cons_zero, List.getD_cons_succ, Fct.hold, and_true] at hn
            refine ⟨by simp [wantP, hn], _, _, by simp [execOp, hn, hf, hc, resolve, invoke, go_sem]; exact ⟨rfl, rfl⟩, ?_⟩
            exact (Slice_any _ s m _ y wr (HX2.out.1.kept ((Kept.drew (Kept.refl _)).trans hg)) (by have := HL.out; omega)).mono fun e w' ⟨u, h1, h2, h3⟩ => ⟨u, h1, by rw [HP.out] at h2; exact h2, h3⟩
          apply go_val (x := .string ⟨(P).toArray⟩) pre_kept
          · rintro ρ wr ⟨hg, hn, hc, hf, hgl⟩
            simp only [Need, fat, List.nil_append, List.cons_append, List.getD_cons_zero, List.getD_cons_succ, Fct.hold, and_true] at hn
            refine ⟨by simp [wantP, hn.2], ?_⟩
            have hq := Bs.str (P := Try.prog) hn.1 22 9 5 Try.underlying22 Try.underlying5 Try.underlying9
            simp only [execOp]
            simp [hq, go_sem]
          apply go_val pre_kept
          · rintro ρ wr ⟨hg, hn, hc, hf, hgl⟩
            simp only [Need, fat, List.nil_append, List.cons_append, List.getD_cons_zero, List.getD_cons_succ, Fct.hold, and_true] at hn
            refine ⟨by simp [wantP, hn], ?_⟩
            simp [execOp, hn, hc, go_sem]
            exact rfl
          apply go_val pre_kept
          · rintro ρ wr ⟨hg, hn, hc, hf, hgl⟩
            simp only [Need, fat, List.nil_append, List.cons_append, List.getD_cons_zero, List.getD_cons_succ, Fct.hold, and_true] at hn
            refine ⟨by simp [wantP, hn], ?_⟩
            simp [execOp, hn, hc, go_sem]
            exact rfl
          apply go_val pre_kept
          · rintro ρ wr ⟨hg, hn, hc, hf, hgl⟩
            simp only [Need, fat, List.nil_append, List.cons_append, List.getD_cons_zero, List.getD_cons_succ, Fct.hold, and_true] at hn
            refine ⟨by simp [wantP, hn], ?_⟩
            simp [execOp, hn, hc, go_sem]
            exact rfl
          refine go_call (p := fun u w' => Bs w' u P) (fun _ _ _ h k => k.keep h) ?_ ?_
          · rintro ρ wr ⟨hg, hn, hc, hf, hgl⟩
            simp only [Need, fat, List.nil_append, List.cons_append, List.getD_cons_zero, List.getD_cons_succ, Fct.hold, and_true] at hn
            refine ⟨by simp [wantP, hn], _, _, by simp [execOp, hn, hf, hc, resolve, invoke, go_sem]; exact ⟨rfl, rfl⟩, ?_⟩
            exact (refSlice_any _ s _ y wr (HX2.out.2.keep ((Kept.drew (Kept.refl _)).trans hg)) (by have := HL.out; omega)).mono fun e w' ⟨u, h1, h2, h3⟩ => ⟨u, h1, by rw [HP.out] at h2; exact h2, h3⟩
          apply go_val (x := .string ⟨(P).toArray⟩) pre_kept
          · rintro ρ wr ⟨hg, hn, hc, hf, hgl⟩
            simp only [Need, fat, List.nil_append, List.cons_append, List.getD_cons_zero, List.getD_cons_succ, Fct.hold, and_true] at hn
            refine ⟨by simp [wantP, hn.2], ?_⟩
            have hq := Bs.str (P := Try.prog) hn.1 22 9 5 Try.underlying22 Try.underlying5 Try.underlying9
            simp only [execOp]
            simp [hq, go_sem]
          apply go_val (x := .bool false) pre_kept
          · rintro ρ wr ⟨hg, hn, hc, hf, hgl⟩
            simp only [Need, fat, List.nil_append, List.cons_append, List.getD_cons_zero, List.getD_cons_succ, Fct.hold, and_true] at hn
            refine ⟨by simp [wantP, hn], ?_⟩
            simp [execOp, hn, hc, go_sem]
          apply go_val (x := .bool false) pre_kept
          · rintro ρ wr ⟨hg, hn, hc, hf, hgl⟩
            simp only [Need, fat, List.nil_append, List.cons_append, List.getD_cons_zero, List.getD_cons_succ, Fct.hold, and_true] at hn
            refine ⟨by simp [wantP, hn], ?_⟩
            simp [execOp, hn, hc, go_sem]
          intro w2 hk2
          simp only [Post, List.nil_append, List.cons_append, Act.put, List.setIfInBounds_toArray, List.set_cons_zero, List.set_cons_succ]
          intro u45 h45 u51 h51
          clear h45 h51
          rename_i K hK
          refine hK _ _ ?_
          clear hK K
          have HZ := Lib.hid (And.intro (HX2.out.1.kept ((Kept.drew (Kept.refl _)).trans hk2)) (And.intro (HX2.out.2.keep ((Kept.drew (Kept.refl _)).trans hk2)) (HY.out.2.2.trans ((Kept.drew (Kept.refl _)).trans hk2))))
          clear hk2
          rename_i w6 w7
          by_cases hlt2 : j < l.length
          · have y2 : (j : Int) < l.length := by omega
            have q0 : (0 : Int) ≤ j := by omega
            obtain ⟨⟨at', del, ins⟩, hz⟩ : ∃ z, l[j]? = some z := ⟨_, List.getElem?_eq_getElem hlt2⟩
            obtain ⟨al, rfl, hsp⟩ := HEL.out j _ hz
            obtain ⟨B, o, eB, f0, f1, s3, f2, hbs⟩ := hsp
            obtain ⟨A6, c6, rfl⟩ := hbs.form
            have HBW := Lib.hid hbs
            simp only at f0 f1 f2
            have HF := Lib.hid (And.intro f0 (And.intro f1 f2))
            have e0 := HZ.out.2.2.cell f0
            have e1 := HZ.out.2.2.cell f1
            have e2 := HZ.out.2.2.cell f2
            clear hz hbs f0 f1 f2
            by_cases h500 : ins.length ≤ 500
            · have y3 : ¬ (ins.length : Int) > 500 := by omega
              go_wp2_with fail
              refine (Splice_any _ s m at' del _ ins _ HZ.out.1 (HBW.out.keep HZ.out.2.2) (by have := HL.out; omega) (by omega)).mono ?_
              rintro e w8 ⟨u8, rfl, h8, k8⟩
              have H8 := Lib.hid (And.intro h8 (And.intro (HZ.out.2.1.gm (rp_mk HZ.out.1) k8) (HZ.out.2.2.above k8 K2.out.2)))
              obtain ⟨g8, root8, rfl, -⟩ := h8
              clear k8 e0 e1 e2
              have e0 := H8.out.2.2.cell HF.out.1
              have e1 := H8.out.2.2.cell HF.out.2.1
              have e2 := H8.out.2.2.cell HF.out.2.2
              unfold ptr
              go_wp2_with fail
              refine (refdo_any _ _ _ at' del _ s ins w8 H8.out.2.1 (HBW.out.keep H8.out.2.2) (by have := HL.out; omega) (by omega)).mono ?_
              rintro e w9 ⟨u9, rfl, h9, k9⟩
              obtain ⟨T, hT⟩ : ∃ T, doL s at' del ins = T := ⟨_, rfl⟩
              have h9' : Bs w9 u9 T := by rw [← hT]; exact h9
              have H9 : Hid (Rp w9 (.pointer (some ⟨g8, 0, none⟩)) T m ∧ Bs w9 u9 T ∧ Kept w w9) := Lib.hid ⟨by rw [← hT]; exact H8.out.1.kept k9, h9', H8.out.2.2.trans k9⟩
              have HTT := Lib.hid hT
              obtain ⟨A9, c9, rfl⟩ := h9'.form
              clear h9 h9' k9 e0 e1 e2 hT
              go_wp2_with fail
              go_roundw
              case rel => exact ⟨j + 1, T, by go_num, by omega, by have := doL_le s at' del ins; rw [HTT.out] at this; have := HL.out; omega, H9.out.1, H9.out.2.1, H9.out.2.2⟩
              case measure => simp [intOf]; omega
            · have y3 : (ins.length : Int) > 500 := by omega
              go_wp2_with fail
              go_ret
              exact ⟨rfl, HZ.out.2.2⟩
          · have y2 : ¬ (j : Int) < l.length := by omega
            go_wp2_with fail
            go_roundw
            case rel => exact ⟨j + 1, s, by go_num, by omega, by have := HL.out; omega, HZ.out.1, HZ.out.2.1, HZ.out.2.2⟩
            case measure => simp [intOf]; omega

    · have y1 : ¬ (j : Int) ≤ l.length := by omega
      go_wp2_with fail
      go_ret
      exact ⟨rfl, HR.out.2.2⟩
set_option maxRecDepth 100000 in
set_option maxHeartbeats 1000000 in
theorem plays_any (b : List UInt8) (l : List (Int × Int × List UInt8)) (v1 v2 : Value) (x y : Int) (w : World) (h1 : Bs w v1 b) (h2 : Sps w v2 l) : Calls Try.prog 3 #[v1, v2, .int .i64 x, .int .i64 y] w fun e w' => e = .returned (.bool true) ∧ Kept w w' := by
  by_cases h : b.length ≤ 3000 ∧ l.length ≤ 40
  · exact plays_in b l v1 v2 x y w h1 h2 h.1 h.2
  · obtain ⟨A1, c1, rfl⟩ := h1.form
    obtain ⟨A2, c2, rfl, -⟩ := h2
    clear h1
    by_cases h0 : b.length > 3000
    · have x1 : (b.length : Int) > 3000 := by omega
      clear h
      go_enter Try.func3, Try.ntmps3
      go_wp2_with fail
      refine (alive_any w).mono ?_
      rintro e w1 ⟨rfl, k1⟩
      have K1 := Lib.hid k1
      clear k1
      go_wp2_with fail
      go_ret
      exact ⟨rfl, K1.out⟩
    · have x1 : ¬ (b.length : Int) > 3000 := by omega
      have x2 : (l.length : Int) > 40 := by omega
      clear h
      go_enter Try.func3, Try.ntmps3
      go_wp2_with fail
      refine (alive_any w).mono ?_
      rintro e w1 ⟨rfl, k1⟩
      have K1 := Lib.hid k1
      clear k1
      go_wp2_with fail
      go_ret
      exact ⟨rfl, K1.out⟩
end Go.Proofs.Ytdobbindilibjaa
