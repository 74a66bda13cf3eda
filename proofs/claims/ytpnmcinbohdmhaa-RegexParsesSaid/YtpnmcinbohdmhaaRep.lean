/-
  What regex.repeated reads. Conditions: the text is no longer than 200 bytes, and the reader stands at a byte of it.
-/
import Derived.Test.YtpnmcinbohdmhaaGrp
set_option linter.unusedSimpArgs false
namespace Go.Proofs.Ytpnmcinbohdmhaa
open Go Go.RowKit Kit
theorem Kit.ReAt.wrap {S : Nat → Prop} {w : World} {o1 n1 p1 nb : Nat} {s1 : BitVec 256} {A1 : Option Addr} {y : Re} (h : ReAt S w (re6 o1 s1 (.slice A1 n1 p1)) y) (hb : w.heap[nb]? = some (.cells #[.int .i64 o1, wd s1 0, wd s1 1, wd s1 2, wd s1 3, .slice A1 n1 p1] 27 (0, 0))) (hS : S nb) (op : Nat) :
    ReAt S w (re6 op 0#256 (.slice (some ⟨nb, 0, none⟩) 1 1)) (.mk op 0#256 [y]) := by
  obtain ⟨⟨c0, c1, c2, c3, c4, c5⟩, -⟩ := box6 hb
  refine .mk op 0#256 [y] (some ⟨nb, 0, none⟩) 1 (fun _ => re6 o1 s1 (.slice A1 n1 p1)) (by simp) (by decide) (fun j z hj => ?_) (fun j z hj => ?_)
  · match j, hj with
    | 0, _ => exact ⟨nb, rfl, hS, _, _, _, _, _, _, rfl, c0, c1, c2, c3, c4, c5⟩
  · match j, hj with
    | 0, hj => simp at hj; subst hj; exact h
theorem repL_in {s : ByteArray} {k : Nat} {c : UInt8} (h : byteAt s k = some c) (x : Re) : repL s x k = if repOp c = 0 then (x, k) else repL s (.mk (repOp c) 0#256 [x]) (k + 1) := by
  rw [repL]
  split
  · rename_i h2; rw [h] at h2; cases h2
  · rename_i d h2; rw [h] at h2; cases h2; rfl
theorem repL_out {s : ByteArray} {k : Nat} (h : byteAt s k = none) (x : Re) : repL s x k = (x, k) := by
  rw [repL]
  split
  · rfl
  · rename_i d h2; rw [h] at h2; cases h2
theorem Kit.ReAt.set {S : Nat → Prop} {w : World} {u : Value} {x : Re} (h : ReAt S w u x) {p : Addr} (hp : ¬ S p.block) (v : Value) : ReAt S (w.setCell p v) u x :=
  h.keep (fun _ _ h => h) fun a y ha hc => by
    rw [World.cell?_setCell_other _ _ _ _ (fun e => hp (by rw [e]; exact ha))]
    exact hc
theorem Kit.St.add {g : Nat} {s : ByteArray} {k op : Nat} {bs : List (Nat × Obj)} {w W : World} (h : St g s k op bs w W) {b : Nat} {o : Obj} (hb : W.heap[b]? = some o) (hg : b ≠ g) : St g s k op ((b, o) :: bs) w W :=
  ⟨h.1, fun q hq => by
    rcases List.mem_cons.1 hq with rfl | hq
    · exact ⟨hb, hg⟩
    · exact h.2.1 q hq, h.2.2⟩
set_option maxHeartbeats 2000000 in
theorem repeated_err (g : Nat) (s : ByteArray) (k op : Nat) (w : World) (h : Rd g s k op w) (_hs : s.size ≤ 200) (er j : Nat) (her : 0 < er) (HC : ∀ w, Rd g s k op w → Calls Try.prog 35 #[ptr g] w (RePost g s op (.err er j) w)) : Calls Try.prog 29 #[ptr g] w (RePost g s op (.err er j) w) := by
  unfold RePost at HC
  have HQ := Lib.hid HC
  clear HC
  have HQ2 := Lib.hid (HQ.out _ ((St.start h).alloc (.cells #[.int .i64 0, .int .u64 0, .int .u64 0, .int .u64 0, .int .u64 0, .slice none 0 0] 27)).1)
  have hgl := h.lt
  have H := Lib.hid ((St.start h).alloc (.cells #[.int .i64 0, .int .u64 0, .int .u64 0, .int .u64 0, .int .u64 0, .slice none 0 0] 27))
  obtain ⟨⟨c0, c1, c2⟩, f0, f1, f2⟩ := h.cells
  clear h
  unfold ptr at *
  go_enter Try.func29, Try.ntmps29
  go_wp2_with fail
  clear c0 c1 c2 f0 f1 f2 HQ
  refine HQ2.out.mono ?_
  rintro e w3 ⟨rfl, ⟨op', h2⟩, h3⟩
  replace H := Lib.hid (H.out.step h2 h3)
  clear h2 h3 HQ2
  unfold zre
  have her2 : ¬ (er : Int) = 0 := by omega
  have hrl := blk_lt (H.out.blk List.mem_cons_self)
  obtain ⟨⟨d0, d1, d2, d3, d4, d5⟩, g0, g1, g2, g3, g4, g5⟩ := box6 (H.out.blk List.mem_cons_self)
  have HF := Lib.hid (ret_re H.out (Nat.le_refl _) (.int .i64 0) (.int .u64 0) (.int .u64 0) (.int .u64 0) (.int .u64 0) (.slice none 0 0))
  go_wp2_with fail
  refine bodyPost_ret (v := .tuple #[zre, .int .i64 er]) ?_ rfl ⟨rfl, ⟨_, HF.out.2.1.kept ((Kept.refl _).alloc _)⟩, HF.out.2.2.alloc _⟩
  simp [results, Try.results29, go_sem, zre, d0, d1, d2, d3, d4, d5, hrl]
set_option maxHeartbeats 4000000 in
theorem repeated_ok (g : Nat) (s : ByteArray) (k op : Nat) (w : World) (h : Rd g s k op w) (hs : s.size ≤ 200) (_hk : k ≤ s.size) (z : Re) (i : Nat) (hi : i ≤ s.size) (R : Re × Nat) (HR : Hid (repL s z i = R)) (HC : ∀ w, Rd g s k op w → Calls Try.prog 35 #[ptr g] w (RePost g s op (.ok z i) w)) : Calls Try.prog 29 #[ptr g] w (RePost g s op (.ok R.1 R.2) w) := by
  unfold RePost at HC
  have HQ := Lib.hid HC
  clear HC
  have HQ2 := Lib.hid (HQ.out _ ((St.start h).alloc (.cells #[.int .i64 0, .int .u64 0, .int .u64 0, .int .u64 0, .int .u64 0, .slice none 0 0] 27)).1)
  have hgl := h.lt
  have H := Lib.hid ((St.start h).alloc (.cells #[.int .i64 0, .int .u64 0, .int .u64 0, .int .u64 0, .int .u64 0, .slice none 0 0] 27))
  obtain ⟨⟨c0, c1, c2⟩, f0, f1, f2⟩ := h.cells
  clear h
  unfold ptr at *
  go_enter Try.func29, Try.ntmps29
  go_wp2_with fail
  clear c0 c1 c2 f0 f1 f2 HQ
  refine HQ2.out.mono ?_
  rintro e w3 ⟨u, rfl, hx, h2, h3⟩
  obtain ⟨o1, s1, A1, n1, p1, rfl⟩ := hx.form
  have hrl := blk_lt (H.out.blk List.mem_cons_self)
  have hsz := Gr.size h3
  have HX : Hid (ReAt (fun k => w.heap.size + 1 ≤ k ∧ k ≠ w3.heap.size) (w3.alloc (.cells #[.int .i64 o1, .int .u64 (wdN s1 0), .int .u64 (wdN s1 1), .int .u64 (wdN s1 2), .int .u64 (wdN s1 3), .slice A1 n1 p1] 27)) (re6 o1 s1 (.slice A1 n1 p1)) z) := Lib.hid ((hx.weak fun k hk hS => ⟨by omega, by omega⟩).kept ((Kept.refl _).alloc _))
  replace H := Lib.hid ((H.out.step h2 h3).alloc (.cells #[.int .i64 o1, .int .u64 (wdN s1 0), .int .u64 (wdN s1 1), .int .u64 (wdN s1 2), .int .u64 (wdN s1 3), .slice A1 n1 p1] 27))
  clear h2 h3 HQ2 hx
  simp only [re6_form] at HX ⊢
  go_wp2_with fail
  go_loopw [6] (fun _ wr => ∃ (j : Nat) (y : Re) (o1 n1 p1 : Nat) (s1 : BitVec 256) (A1 : Option Addr), j ≤ s.size ∧ repL s y j = R ∧ ReAt (fun k => w.heap.size + 1 ≤ k ∧ k ≠ w3.heap.size) wr (re6 o1 s1 (.slice A1 n1 p1)) y ∧ St g s j op [(w3.heap.size, .cells #[.int .i64 o1, wd s1 0, wd s1 1, wd s1 2, wd s1 3, .slice A1 n1 p1] 27), (w.heap.size, (.cells #[.int .i64 0, .int .u64 0, .int .u64 0, .int .u64 0, .int .u64 0, .slice none 0 0] 27))] w wr) (fun _ wr => s.size - atOf g wr)
  case atStart => exact ⟨i, z, o1, n1, p1, s1, A1, hi, HR.out, HX.out, H.out⟩
  case round =>
    clear HR HX H
    obtain ⟨j, y, o1, n1, p1, s1, A1, hj, hr, hx, hst⟩ := hrel
    have H := Lib.hid hst
    have HR := Lib.hid hr
    have HX := Lib.hid hx
    clear hst hr hx
    have HM := Lib.hid (atOf_rd H.out.1)
    have hxg := H.out.ne List.mem_cons_self
    simp only [wd_eq] at H
    obtain ⟨⟨c0, c1, c2⟩, f0, f1, f2⟩ := H.out.1.cells
    by_cases hlt0 : j < s.size
    · have hlt : (j : Int) < s.size := by omega
      have hk0 : (0 : Int) ≤ j := by omega
      have hun := HR.out
      rw [repL_in (byteAt_some hlt0)] at hun
      have HUN := Lib.hid hun
      clear hun HR
      go_wp2_with fail
      refine wp_region_go Kept pre_kept [([(0, none)], none), ([(16, some 0)], none), ([(17, some 1)], none), ([(18, some 2)], none), ([(0, none)], none), ([(20, some 4)], none), ([(21, some 5)], none), ([(22, some 6)], none), ([(23, some 7)], none), ([(19, some 3), (24, some 8)], none)] (by kernel_rfl) 50 rfl (by kernel_rfl) (by kernel_rfl) ?_
      apply go_val pre_kept
      · rintro ρ wr ⟨hg, hn, hc, hf, hgl⟩
        simp only [Need, fat, List.nil_append, List.cons_append, List.getD_cons_zero, List.getD_cons_succ, Fct.hold, and_true] at hn
        refine ⟨by simp [wantP, hn], ?_⟩
        simp [execOp, hn, hc, go_sem]
        exact rfl
      apply go_val pre_kept
      · rintro ρ wr ⟨hg, hn, hc, hf, hgl⟩
        simp only [Need, fat, List.nil_append, List.cons_append, List.getD_cons_zero, List.getD_cons_succ, Fct.hold, and_true] at hn
        refine ⟨by simp [wantP, hn], ?_⟩
        simp [execOp, hn, hc, go_sem]
        exact rfl
      apply go_val pre_kept
      · rintro ρ wr ⟨hg, hn, hc, hf, hgl⟩
        simp only [Need, fat, List.nil_append, List.cons_append, List.getD_cons_zero, List.getD_cons_succ, Fct.hold, and_true] at hn
        refine ⟨by simp [wantP, hn], ?_⟩
        simp [execOp, hn, hc, go_sem]
        exact rfl
      apply go_val pre_kept
      · rintro ρ wr ⟨hg, hn, hc, hf, hgl⟩
        simp only [Need, fat, List.nil_append, List.cons_append, List.getD_cons_zero, List.getD_cons_succ, Fct.hold, and_true] at hn
        have hl := And.intro (hg.cell c0) (hg.cell c1)
        refine ⟨by simp [wantP, hn], ?_⟩
        simp [execOp, hn, hc, hl, go_sem]
        exact rfl
      apply go_val pre_kept
      · rintro ρ wr ⟨hg, hn, hc, hf, hgl⟩
        simp only [Need, fat, List.nil_append, List.cons_append, List.getD_cons_zero, List.getD_cons_succ, Fct.hold, and_true] at hn
        refine ⟨by simp [wantP, hn], ?_⟩
        simp [execOp, hn, hc, go_sem]
        exact rfl
      apply go_val pre_kept
      · rintro ρ wr ⟨hg, hn, hc, hf, hgl⟩
        simp only [Need, fat, List.nil_append, List.cons_append, List.getD_cons_zero, List.getD_cons_succ, Fct.hold, and_true] at hn
        refine ⟨by simp [wantP, hn], ?_⟩
        simp [execOp, hn, hc, go_sem]
        exact rfl
      apply go_val pre_kept
      · rintro ρ wr ⟨hg, hn, hc, hf, hgl⟩
        simp only [Need, fat, List.nil_append, List.cons_append, List.getD_cons_zero, List.getD_cons_succ, Fct.hold, and_true] at hn
        refine ⟨by simp [wantP, hn], ?_⟩
        simp [execOp, hn, hc, go_sem]
        exact rfl
      apply go_val pre_kept
      · rintro ρ wr ⟨hg, hn, hc, hf, hgl⟩
        simp only [Need, fat, List.nil_append, List.cons_append, List.getD_cons_zero, List.getD_cons_succ, Fct.hold, and_true] at hn
        have hl := And.intro (hg.cell c0) (hg.cell c1)
        refine ⟨by simp [wantP, hn], ?_⟩
        simp [execOp, hn, hc, hl, go_sem]
        exact rfl
      apply go_val pre_kept
      · rintro ρ wr ⟨hg, hn, hc, hf, hgl⟩
        simp only [Need, fat, List.nil_append, List.cons_append, List.getD_cons_zero, List.getD_cons_succ, Fct.hold, and_true] at hn
        refine ⟨by simp [wantP, hn], ?_⟩
        simp [execOp, hn, hc, go_sem]
        exact rfl
      apply go_val (x := .bool true) pre_kept
      · rintro ρ wr ⟨hg, hn, hc, hf, hgl⟩
        simp only [Need, fat, List.nil_append, List.cons_append, List.getD_cons_zero, List.getD_cons_succ, Fct.hold, and_true] at hn
        refine ⟨by simp [wantP, hn], ?_⟩
        simp [execOp, hn, hc, go_sem, hlt]
      intro w2 hk2
      simp only [Post, List.nil_append, List.cons_append, Act.put, List.setIfInBounds_toArray, List.set_cons_zero, List.set_cons_succ]
      rename_i hK
      refine hK _ _ ?_
      clear hK
      replace H := Lib.hid (H.out.drawn hk2)
      replace HX := Lib.hid (HX.out.kept ((Kept.drew (Kept.refl _)).trans hk2))
      clear hk2 c0 c1 c2 f0 f1 f2
      obtain ⟨⟨c0, c1, c2⟩, f0, f1, f2⟩ := H.out.1.cells
      go_wp2_with fail
      refine wp_region_go Kept pre_kept [([(0, none)], none), ([(26, some 0)], none), ([(27, some 1)], none), ([(28, some 2)], none), ([(0, none)], none), ([(30, some 4)], none), ([(31, some 5)], none), ([(32, some 6)], none), ([(29, some 3), (33, some 7)], none), ([(34, some 8)], none), ([(35, some 9)], none)] (by kernel_rfl) 50 rfl (by kernel_rfl) (by kernel_rfl) ?_
      apply go_val pre_kept
      · rintro ρ wr ⟨hg, hn, hc, hf, hgl⟩
        simp only [Need, fat, List.nil_append, List.cons_append, List.getD_cons_zero, List.getD_cons_succ, Fct.hold, and_true] at hn
        refine ⟨by simp [wantP, hn], ?_⟩
        simp [execOp, hn, hc, go_sem]
        exact rfl
      apply go_val pre_kept
      · rintro ρ wr ⟨hg, hn, hc, hf, hgl⟩
        simp only [Need, fat, List.nil_append, List.cons_append, List.getD_cons_zero, List.getD_cons_succ, Fct.hold, and_true] at hn
        refine ⟨by simp [wantP, hn], ?_⟩
        simp [execOp, hn, hc, go_sem]
        exact rfl
      apply go_val pre_kept
      · rintro ρ wr ⟨hg, hn, hc, hf, hgl⟩
        simp only [Need, fat, List.nil_append, List.cons_append, List.getD_cons_zero, List.getD_cons_succ, Fct.hold, and_true] at hn
        refine ⟨by simp [wantP, hn], ?_⟩
        simp [execOp, hn, hc, go_sem]
        exact rfl
      apply go_val pre_kept
      · rintro ρ wr ⟨hg, hn, hc, hf, hgl⟩
        simp only [Need, fat, List.nil_append, List.cons_append, List.getD_cons_zero, List.getD_cons_succ, Fct.hold, and_true] at hn
        have hl := And.intro (hg.cell c0) (hg.cell c1)
        refine ⟨by simp [wantP, hn], ?_⟩
        simp [execOp, hn, hc, hl, go_sem]
        exact rfl
      apply go_val pre_kept
      · rintro ρ wr ⟨hg, hn, hc, hf, hgl⟩
        simp only [Need, fat, List.nil_append, List.cons_append, List.getD_cons_zero, List.getD_cons_succ, Fct.hold, and_true] at hn
        refine ⟨by simp [wantP, hn], ?_⟩
        simp [execOp, hn, hc, go_sem]
        exact rfl
      apply go_val pre_kept
      · rintro ρ wr ⟨hg, hn, hc, hf, hgl⟩
        simp only [Need, fat, List.nil_append, List.cons_append, List.getD_cons_zero, List.getD_cons_succ, Fct.hold, and_true] at hn
        refine ⟨by simp [wantP, hn], ?_⟩
        simp [execOp, hn, hc, go_sem]
        exact rfl
      apply go_val pre_kept
      · rintro ρ wr ⟨hg, hn, hc, hf, hgl⟩
        simp only [Need, fat, List.nil_append, List.cons_append, List.getD_cons_zero, List.getD_cons_succ, Fct.hold, and_true] at hn
        refine ⟨by simp [wantP, hn], ?_⟩
        simp [execOp, hn, hc, go_sem]
        exact rfl
      apply go_val pre_kept
      · rintro ρ wr ⟨hg, hn, hc, hf, hgl⟩
        simp only [Need, fat, List.nil_append, List.cons_append, List.getD_cons_zero, List.getD_cons_succ, Fct.hold, and_true] at hn
        have hl := And.intro (hg.cell c0) (hg.cell c1)
        refine ⟨by simp [wantP, hn], ?_⟩
        simp [execOp, hn, hc, hl, go_sem]
        exact rfl
      apply go_val (x := .int .u8 (s[j].toNat : Int)) pre_kept
      · rintro ρ wr ⟨hg, hn, hc, hf, hgl⟩
        simp only [Need, fat, List.nil_append, List.cons_append, List.getD_cons_zero, List.getD_cons_succ, Fct.hold, and_true] at hn
        refine ⟨by simp [wantP, hn], ?_⟩
        simp [execOp, hn, hc, go_sem, hlt, hk0]
      apply go_callv (x := .int .i64 (repOp s[j] : Int))
      · rintro ρ wr ⟨hg, hn, hc, hf, hgl⟩
        simp only [Need, fat, List.nil_append, List.cons_append, List.getD_cons_zero, List.getD_cons_succ, Fct.hold, and_true] at hn
        refine ⟨by simp [wantP, hn], _, _, by simp [execOp, hn, hf, hc, resolve, invoke, go_sem]; exact ⟨rfl, rfl⟩, ?_⟩
        exact (repeat_any s[j] wr).mono fun e w' ⟨h1, h2⟩ => ⟨_, h1, rfl, by rw [h2]; exact Kept.refl _⟩
      apply go_val pre_kept
      · rintro ρ wr ⟨hg, hn, hc, hf, hgl⟩
        simp only [Need, fat, List.nil_append, List.cons_append, List.getD_cons_zero, List.getD_cons_succ, Fct.hold, and_true] at hn
        refine ⟨by simp [wantP, hn], ?_⟩
        simp [execOp, hn, hc, go_sem]
        exact rfl
      intro w7 hk7
      simp only [Post, List.nil_append, List.cons_append, Act.put, List.setIfInBounds_toArray, List.set_cons_zero, List.set_cons_succ]
      rename_i hK
      refine hK _ _ ?_
      clear hK
      replace H := Lib.hid (H.out.drawn hk7)
      replace HX := Lib.hid (HX.out.kept ((Kept.drew (Kept.refl _)).trans hk7))
      clear hk7 c0 c1 c2 f0 f1 f2
      by_cases hz : repOp s[j] = 0
      · have HR : Hid ((y, j) = R) := Lib.hid (by rw [← HUN.out, if_pos hz])
        have hzi : (repOp s[j] : Int) = 0 := by omega
        clear HUN hz
        obtain ⟨⟨x0, x1, x2, x3, x4, x5⟩, -⟩ := box6 (H.out.blk List.mem_cons_self)
        obtain ⟨⟨d0, d1, d2, d3, d4, d5⟩, g0, g1, g2, g3, g4, g5⟩ := box6 (H.out.blk (List.mem_cons_of_mem _ List.mem_cons_self))
        have HF := Lib.hid (ret_pass H.out.drop (HX.out.weak fun k _ hS => hS.1))
        simp only [re6_form, wd_eq] at HF
        go_wp2_with fail
        refine bodyPost_ret (v := .tuple #[re6 o1 s1 (.slice A1 n1 p1), .int .i64 0]) ?_ rfl ?_
        · simp [results, Try.results29, go_sem, re6_form, d0, d1, d2, d3, d4, d5]
        · rw [← HR.out]
          exact ⟨_, rfl, HF.out⟩
      · have HR : Hid (repL s (.mk (repOp s[j]) 0#256 [y]) (j + 1) = R) := Lib.hid (by rw [← HUN.out, if_neg hz])
        have hzi : ¬ (repOp s[j] : Int) = 0 := by omega
        clear HUN hz
        generalize hq : repOp s[j] = q at HR hzi ⊢
        clear hq
        obtain ⟨j1, hj1⟩ : ∃ j1, j + 1 = j1 := ⟨_, rfl⟩
        have hji : (j : Int) + 1 = j1 := by omega
        have hj1b : j1 ≤ s.size := by omega
        have hj1c : j1 ≤ 200 := by omega
        rw [hj1] at HR
        have HJ := Lib.hid hj1
        clear hj1
        obtain ⟨⟨c0, c1, c2⟩, f0, f1, f2⟩ := H.out.1.cells
        obtain ⟨⟨x0, x1, x2, x3, x4, x5⟩, y0, y1, y2, y3, y4, y5⟩ := box6 (H.out.blk List.mem_cons_self)
        have hxl := blk_lt (H.out.blk List.mem_cons_self)
        have hgl7 := H.out.1.lt
        have hs1 : w.heap.size ≤ w3.heap.size := by rw [World.size_alloc] at hsz; omega
        have hs2 : w.heap.size < w3.heap.size := by rw [World.size_alloc] at hsz; omega
        have hszw : (((((((w7.setCell ⟨w3.heap.size, 0, none⟩ (.int .i64 q)).setCell ⟨w3.heap.size, 1, none⟩ (.int .u64 0)).setCell ⟨w3.heap.size, 2, none⟩ (.int .u64 0)).setCell ⟨w3.heap.size, 3, none⟩ (.int .u64 0)).setCell ⟨w3.heap.size, 4, none⟩ (.int .u64 0)).setCell ⟨w3.heap.size, 5, none⟩ (.slice (some ⟨w7.heap.size, 0, none⟩) 1 1)).setCell ⟨g, 1, none⟩ (.int .i64 j1)).heap.size = w7.heap.size := by simp [World.setCell]
        have hst : St g s j1 op [(w.heap.size, (.cells #[.int .i64 0, .int .u64 0, .int .u64 0, .int .u64 0, .int .u64 0, .slice none 0 0] 27))] w (((((((w7.setCell ⟨w3.heap.size, 0, none⟩ (.int .i64 q)).setCell ⟨w3.heap.size, 1, none⟩ (.int .u64 0)).setCell ⟨w3.heap.size, 2, none⟩ (.int .u64 0)).setCell ⟨w3.heap.size, 3, none⟩ (.int .u64 0)).setCell ⟨w3.heap.size, 4, none⟩ (.int .u64 0)).setCell ⟨w3.heap.size, 5, none⟩ (.slice (some ⟨w7.heap.size, 0, none⟩) 1 1)).setCell ⟨g, 1, none⟩ (.int .i64 j1)) := ((((((H.out.drop.side (p := ⟨w3.heap.size, 0, none⟩) hs1 hxg (by simp; omega) _).side (p := ⟨w3.heap.size, 1, none⟩) hs1 hxg (by simp; omega) _).side (p := ⟨w3.heap.size, 2, none⟩) hs1 hxg (by simp; omega) _).side (p := ⟨w3.heap.size, 3, none⟩) hs1 hxg (by simp; omega) _).side (p := ⟨w3.heap.size, 4, none⟩) hs1 hxg (by simp; omega) _).side (p := ⟨w3.heap.size, 5, none⟩) hs1 hxg (by simp; omega) _).at j1
        have hxb : (((((((w7.setCell ⟨w3.heap.size, 0, none⟩ (.int .i64 q)).setCell ⟨w3.heap.size, 1, none⟩ (.int .u64 0)).setCell ⟨w3.heap.size, 2, none⟩ (.int .u64 0)).setCell ⟨w3.heap.size, 3, none⟩ (.int .u64 0)).setCell ⟨w3.heap.size, 4, none⟩ (.int .u64 0)).setCell ⟨w3.heap.size, 5, none⟩ (.slice (some ⟨w7.heap.size, 0, none⟩) 1 1)).setCell ⟨g, 1, none⟩ (.int .i64 j1)).heap[w3.heap.size]? = some (.cells #[.int .i64 q, wd 0#256 0, wd 0#256 1, wd 0#256 2, wd 0#256 3, .slice (some ⟨w7.heap.size, 0, none⟩) 1 1] 27 (0, 0)) := by
          simp only [wd_zero]
          exact blk_aside (blk_set6 (H.out.blk List.mem_cons_self) _ _ _ _ _ _) (by simp only []; omega) _
        have hrx : ReAt (fun k => w.heap.size + 1 ≤ k ∧ k ≠ w3.heap.size) (((((((w7.setCell ⟨w3.heap.size, 0, none⟩ (.int .i64 q)).setCell ⟨w3.heap.size, 1, none⟩ (.int .u64 0)).setCell ⟨w3.heap.size, 2, none⟩ (.int .u64 0)).setCell ⟨w3.heap.size, 3, none⟩ (.int .u64 0)).setCell ⟨w3.heap.size, 4, none⟩ (.int .u64 0)).setCell ⟨w3.heap.size, 5, none⟩ (.slice (some ⟨w7.heap.size, 0, none⟩) 1 1)).setCell ⟨g, 1, none⟩ (.int .i64 j1)) (re6 o1 s1 (.slice A1 n1 p1)) y := ((((((HX.out.set (p := ⟨w3.heap.size, 0, none⟩) (fun h => h.2 rfl) _).set (p := ⟨w3.heap.size, 1, none⟩) (fun h => h.2 rfl) _).set (p := ⟨w3.heap.size, 2, none⟩) (fun h => h.2 rfl) _).set (p := ⟨w3.heap.size, 3, none⟩) (fun h => h.2 rfl) _).set (p := ⟨w3.heap.size, 4, none⟩) (fun h => h.2 rfl) _).set (p := ⟨w3.heap.size, 5, none⟩) (fun h => h.2 rfl) _).set (p := ⟨g, 1, none⟩) (fun h => by have := h.1; simp only [] at this; omega) _
        have hnb : ((((((((w7.setCell ⟨w3.heap.size, 0, none⟩ (.int .i64 q)).setCell ⟨w3.heap.size, 1, none⟩ (.int .u64 0)).setCell ⟨w3.heap.size, 2, none⟩ (.int .u64 0)).setCell ⟨w3.heap.size, 3, none⟩ (.int .u64 0)).setCell ⟨w3.heap.size, 4, none⟩ (.int .u64 0)).setCell ⟨w3.heap.size, 5, none⟩ (.slice (some ⟨w7.heap.size, 0, none⟩) 1 1)).setCell ⟨g, 1, none⟩ (.int .i64 j1)).alloc (.cells #[.int .i64 o1, .int .u64 (wdN s1 0), .int .u64 (wdN s1 1), .int .u64 (wdN s1 2), .int .u64 (wdN s1 3), .slice A1 n1 p1] 27)).heap[w7.heap.size]? = some (.cells #[.int .i64 o1, .int .u64 (wdN s1 0), .int .u64 (wdN s1 1), .int .u64 (wdN s1 2), .int .u64 (wdN s1 3), .slice A1 n1 p1] 27) := by
          have := blk_new (((((((w7.setCell ⟨w3.heap.size, 0, none⟩ (.int .i64 q)).setCell ⟨w3.heap.size, 1, none⟩ (.int .u64 0)).setCell ⟨w3.heap.size, 2, none⟩ (.int .u64 0)).setCell ⟨w3.heap.size, 3, none⟩ (.int .u64 0)).setCell ⟨w3.heap.size, 4, none⟩ (.int .u64 0)).setCell ⟨w3.heap.size, 5, none⟩ (.slice (some ⟨w7.heap.size, 0, none⟩) 1 1)).setCell ⟨g, 1, none⟩ (.int .i64 j1)) (.cells #[.int .i64 o1, .int .u64 (wdN s1 0), .int .u64 (wdN s1 1), .int .u64 (wdN s1 2), .int .u64 (wdN s1 3), .slice A1 n1 p1] 27)
          rw [hszw] at this
          exact this
        have HN := Lib.hid (((hst.add hxb hxg).drop2 (.cells #[.int .i64 o1, .int .u64 (wdN s1 0), .int .u64 (wdN s1 1), .int .u64 (wdN s1 2), .int .u64 (wdN s1 3), .slice A1 n1 p1] 27)))
        have HW := Lib.hid ((hrx.kept ((Kept.refl _).alloc (.cells #[.int .i64 o1, .int .u64 (wdN s1 0), .int .u64 (wdN s1 1), .int .u64 (wdN s1 2), .int .u64 (wdN s1 3), .slice A1 n1 p1] 27))).wrap hnb ⟨by omega, by omega⟩ q)
        clear hst hxb hrx hnb hszw HX hs1 hs2
        go_wp2_with fail
        go_roundw
        case rel => exact ⟨j1, .mk q 0#256 [y], q, 1, 1, 0#256, some ⟨w7.heap.size, 0, none⟩, hj1b, HR.out, HW.out, HN.out⟩
        case measure => rw [HM.out, atOf_rd HN.out.1]; have := HJ.out; omega
    · have hge : s.size ≤ j := by omega
      have HR2 : Hid ((y, j) = R) := Lib.hid (by rw [← HR.out, repL_out (byteAt_none hlt0)])
      clear HR
      have HR := HR2
      clear HR2
      go_wp2_with fail
      refine wp_region_go Kept pre_kept [([(0, none)], none), ([(16, some 0)], none), ([(17, some 1)], none), ([(18, some 2)], none), ([(0, none)], none), ([(20, some 4)], none), ([(21, some 5)], none), ([(22, some 6)], none), ([(23, some 7)], none), ([(19, some 3), (24, some 8)], none)] (by kernel_rfl) 50 rfl (by kernel_rfl) (by kernel_rfl) ?_
      apply go_val pre_kept
      · rintro ρ wr ⟨hg, hn, hc, hf, hgl⟩
        simp only [Need, fat, List.nil_append, List.cons_append, List.getD_cons_zero, List.getD_cons_succ, Fct.hold, and_true] at hn
        refine ⟨by simp [wantP, hn], ?_⟩
        simp [execOp, hn, hc, go_sem]
        exact rfl
      apply go_val pre_kept
      · rintro ρ wr ⟨hg, hn, hc, hf, hgl⟩
        simp only [Need, fat, List.nil_append, List.cons_append, List.getD_cons_zero, List.getD_cons_succ, Fct.hold, and_true] at hn
        refine ⟨by simp [wantP, hn], ?_⟩
        simp [execOp, hn, hc, go_sem]
        exact rfl
      apply go_val pre_kept
      · rintro ρ wr ⟨hg, hn, hc, hf, hgl⟩
        simp only [Need, fat, List.nil_append, List.cons_append, List.getD_cons_zero, List.getD_cons_succ, Fct.hold, and_true] at hn
        refine ⟨by simp [wantP, hn], ?_⟩
        simp [execOp, hn, hc, go_sem]
        exact rfl
      apply go_val pre_kept
      · rintro ρ wr ⟨hg, hn, hc, hf, hgl⟩
        simp only [Need, fat, List.nil_append, List.cons_append, List.getD_cons_zero, List.getD_cons_succ, Fct.hold, and_true] at hn
        have hl := And.intro (hg.cell c0) (hg.cell c1)
        refine ⟨by simp [wantP, hn], ?_⟩
        simp [execOp, hn, hc, hl, go_sem]
        exact rfl
      apply go_val pre_kept
      · rintro ρ wr ⟨hg, hn, hc, hf, hgl⟩
        simp only [Need, fat, List.nil_append, List.cons_append, List.getD_cons_zero, List.getD_cons_succ, Fct.hold, and_true] at hn
        refine ⟨by simp [wantP, hn], ?_⟩
        simp [execOp, hn, hc, go_sem]
        exact rfl
      apply go_val pre_kept
      · rintro ρ wr ⟨hg, hn, hc, hf, hgl⟩
        simp only [Need, fat, List.nil_append, List.cons_append, List.getD_cons_zero, List.getD_cons_succ, Fct.hold, and_true] at hn
        refine ⟨by simp [wantP, hn], ?_⟩
        simp [execOp, hn, hc, go_sem]
        exact rfl
      apply go_val pre_kept
      · rintro ρ wr ⟨hg, hn, hc, hf, hgl⟩
        simp only [Need, fat, List.nil_append, List.cons_append, List.getD_cons_zero, List.getD_cons_succ, Fct.hold, and_true] at hn
        refine ⟨by simp [wantP, hn], ?_⟩
        simp [execOp, hn, hc, go_sem]
        exact rfl
      apply go_val pre_kept
      · rintro ρ wr ⟨hg, hn, hc, hf, hgl⟩
        simp only [Need, fat, List.nil_append, List.cons_append, List.getD_cons_zero, List.getD_cons_succ, Fct.hold, and_true] at hn
        have hl := And.intro (hg.cell c0) (hg.cell c1)
        refine ⟨by simp [wantP, hn], ?_⟩
        simp [execOp, hn, hc, hl, go_sem]
        exact rfl
      apply go_val pre_kept
      · rintro ρ wr ⟨hg, hn, hc, hf, hgl⟩
        simp only [Need, fat, List.nil_append, List.cons_append, List.getD_cons_zero, List.getD_cons_succ, Fct.hold, and_true] at hn
        refine ⟨by simp [wantP, hn], ?_⟩
        simp [execOp, hn, hc, go_sem]
        exact rfl
      apply go_val (x := .bool false) pre_kept
      · rintro ρ wr ⟨hg, hn, hc, hf, hgl⟩
        simp only [Need, fat, List.nil_append, List.cons_append, List.getD_cons_zero, List.getD_cons_succ, Fct.hold, and_true] at hn
        refine ⟨by simp [wantP, hn], ?_⟩
        simp [execOp, hn, hc, go_sem, hge]
      intro w2 hk2
      simp only [Post, List.nil_append, List.cons_append, Act.put, List.setIfInBounds_toArray, List.set_cons_zero, List.set_cons_succ]
      rename_i hK
      refine hK _ _ ?_
      clear hK
      replace H := Lib.hid (H.out.drawn hk2)
      replace HX := Lib.hid (HX.out.kept ((Kept.drew (Kept.refl _)).trans hk2))
      clear hk2 c0 c1 c2 f0 f1 f2
      obtain ⟨⟨x0, x1, x2, x3, x4, x5⟩, -⟩ := box6 (H.out.blk List.mem_cons_self)
      obtain ⟨⟨d0, d1, d2, d3, d4, d5⟩, g0, g1, g2, g3, g4, g5⟩ := box6 (H.out.blk (List.mem_cons_of_mem _ List.mem_cons_self))
      have HF := Lib.hid (ret_pass H.out.drop (HX.out.weak fun k _ hS => hS.1))
      simp only [re6_form, wd_eq] at HF
      go_wp2_with fail
      refine bodyPost_ret (v := .tuple #[re6 o1 s1 (.slice A1 n1 p1), .int .i64 0]) ?_ rfl ?_
      · simp [results, Try.results29, go_sem, re6_form, d0, d1, d2, d3, d4, d5]
      · rw [← HR.out]
        exact ⟨_, rfl, HF.out⟩
theorem repeated_any (g : Nat) (s : ByteArray) (k op : Nat) (G : Nat → Res Re) (w : World) (h : Rd g s k op w) (hs : s.size ≤ 200) (hk : k < s.size) (hG : ∀ k, k < s.size → Fw s k (G k))
    (HC : ∀ w, Rd g s k op w → Calls Try.prog 47 #[ptr g] w (RePost g s op (G k) w)) : Calls Try.prog 29 #[ptr g] w (RePost g s op (repP G s k) w) := by
  have hf := atomP_fw G s k (hG) hk
  have ha := fun w' h' => atom_any g s k op G w' h' hs hk (hG k hk) HC
  unfold repP
  cases hR : atomP G s k with
  | err er j => rw [hR] at hf ha; exact repeated_err g s k op w h hs er j hf.1 ha
  | ok x j => rw [hR] at hf ha; exact repeated_ok g s k op w h hs (by omega) x j hf.2 _ (Lib.hid rfl) ha
end Go.Proofs.Ytpnmcinbohdmhaa
