/-
  What the small functions of the document's own reader do. Conditions: the reader has not failed.
-/
import Derived.Test.YtdbffbdpofodmaaRMem
set_option linter.unusedSimpArgs false
namespace Go.Proofs.Ytdbffbdpofodmaa
open Go Go.RowKit Kit
set_option maxHeartbeats 2000000 in
theorem over_in (g : Nat) (s : ByteArray) (k : Nat) (w : World) (h : w.heap[g]? = some (RO s k)) (hlt : k < s.size) : Calls Try.prog 27 #[ptr g] w fun e w' => e = .returned (.bool false) ∧ Kept w w' := by
  obtain ⟨⟨c0, c1, -⟩, -⟩ := RO.lay h
  clear h
  unfold ptr
  go_enter Try.func27, Try.ntmps27
  go_wp2
  refine wp_region_go Kept pre_kept [([(0, none)], none), ([(3, some 0)], none), ([(4, some 1)], none), ([(5, some 2)], none), ([(0, none)], none), ([(7, some 4)], none), ([(8, some 5)], none), ([(9, some 6)], none), ([(10, some 7)], none), ([(6, some 3), (11, some 8)], none), ([(12, some 9)], none)] (by kernel_rfl) 13 rfl (by kernel_rfl) (by kernel_rfl) ?_
  apply go_val pre_kept
  · rintro ρ wr ⟨hg, hn, hc, hf, hgl⟩
    simp only [Need, fat, List.nil_append, List.cons_append, List.getD_cons_zero, List.getD_cons_succ, Fct.hold, and_true] at hn
    refine ⟨by simp [wantP, hn], ?_⟩
    simp [execOp, hn, hc, go_sem]
    exact rfl
  apply go_val pre_kept
  · rintro ρ wr ⟨hg, hn, hc, hf, hgl⟩
    simp only [Need, fat, List.nil_append, List.cons_append, List.getD_cons_zero, List.getD_cons_succ, Fct.hold, and_true] at hn
    refine ⟨by simp [wantP, hn], ?_⟩
    simp [execOp, hn, hc, go_sem]
    exact rfl
  apply go_val pre_kept
  · rintro ρ wr ⟨hg, hn, hc, hf, hgl⟩
    simp only [Need, fat, List.nil_append, List.cons_append, List.getD_cons_zero, List.getD_cons_succ, Fct.hold, and_true] at hn
    refine ⟨by simp [wantP, hn], ?_⟩
    simp [execOp, hn, hc, go_sem]
    exact rfl
  apply go_val pre_kept
  · rintro ρ wr ⟨hg, hn, hc, hf, hgl⟩
    simp only [Need, fat, List.nil_append, List.cons_append, List.getD_cons_zero, List.getD_cons_succ, Fct.hold, and_true] at hn
    have hl := And.intro (hg.cell c0) (hg.cell c1)
    refine ⟨by simp [wantP, hn], ?_⟩
    simp [execOp, hn, hc, hl, go_sem]
    exact rfl
  apply go_val pre_kept
  · rintro ρ wr ⟨hg, hn, hc, hf, hgl⟩
    simp only [Need, fat, List.nil_append, List.cons_append, List.getD_cons_zero, List.getD_cons_succ, Fct.hold, and_true] at hn
    refine ⟨by simp [wantP, hn], ?_⟩
    simp [execOp, hn, hc, go_sem]
    exact rfl
  apply go_val pre_kept
  · rintro ρ wr ⟨hg, hn, hc, hf, hgl⟩
    simp only [Need, fat, List.nil_append, List.cons_append, List.getD_cons_zero, List.getD_cons_succ, Fct.hold, and_true] at hn
    refine ⟨by simp [wantP, hn], ?_⟩
    simp [execOp, hn, hc, go_sem]
    exact rfl
  apply go_val pre_kept
  · rintro ρ wr ⟨hg, hn, hc, hf, hgl⟩
    simp only [Need, fat, List.nil_append, List.cons_append, List.getD_cons_zero, List.getD_cons_succ, Fct.hold, and_true] at hn
    refine ⟨by simp [wantP, hn], ?_⟩
    simp [execOp, hn, hc, go_sem]
    exact rfl
  apply go_val pre_kept
  · rintro ρ wr ⟨hg, hn, hc, hf, hgl⟩
    simp only [Need, fat, List.nil_append, List.cons_append, List.getD_cons_zero, List.getD_cons_succ, Fct.hold, and_true] at hn
    have hl := And.intro (hg.cell c0) (hg.cell c1)
    refine ⟨by simp [wantP, hn], ?_⟩
    simp [execOp, hn, hc, hl, go_sem]
    exact rfl
  apply go_val pre_kept
  · rintro ρ wr ⟨hg, hn, hc, hf, hgl⟩
    simp only [Need, fat, List.nil_append, List.cons_append, List.getD_cons_zero, List.getD_cons_succ, Fct.hold, and_true] at hn
    refine ⟨by simp [wantP, hn], ?_⟩
    simp [execOp, hn, hc, go_sem]
    exact rfl
  apply go_val (x := .bool false) pre_kept
  · rintro ρ wr ⟨hg, hn, hc, hf, hgl⟩
    simp only [Need, fat, List.nil_append, List.cons_append, List.getD_cons_zero, List.getD_cons_succ, Fct.hold, and_true] at hn
    refine ⟨by simp [wantP, hn], ?_⟩
    simp [execOp, hn, hc, go_sem, hlt]
  apply go_val pre_kept
  · rintro ρ wr ⟨hg, hn, hc, hf, hgl⟩
    simp only [Need, fat, List.nil_append, List.cons_append, List.getD_cons_zero, List.getD_cons_succ, Fct.hold, and_true] at hn
    refine ⟨by simp [wantP, hn], ?_⟩
    simp [execOp, hn, hc, go_sem]
    exact rfl
  intro w2 hk2
  simp only [Post, List.nil_append, List.cons_append, Act.put, List.setIfInBounds_toArray, List.set_cons_zero, List.set_cons_succ]
  have HK := Lib.hid hk2
  clear hk2
  rename_i hK
  refine hK _ _ ?_
  clear hK
  go_wp2
  go_ret
  exact ⟨rfl, (Kept.drew (Kept.refl _)).trans HK.out⟩
set_option maxHeartbeats 2000000 in
theorem over_end (g : Nat) (s : ByteArray) (k : Nat) (w : World) (h : w.heap[g]? = some (RO s k)) (hlt : s.size ≤ k) : Calls Try.prog 27 #[ptr g] w fun e w' => e = .returned (.bool true) ∧ Kept w w' := by
  obtain ⟨⟨c0, c1, -⟩, -⟩ := RO.lay h
  clear h
  unfold ptr
  go_enter Try.func27, Try.ntmps27
  go_wp2
  refine wp_region_go Kept pre_kept [([(0, none)], none), ([(3, some 0)], none), ([(4, some 1)], none), ([(5, some 2)], none), ([(0, none)], none), ([(7, some 4)], none), ([(8, some 5)], none), ([(9, some 6)], none), ([(10, some 7)], none), ([(6, some 3), (11, some 8)], none), ([(12, some 9)], none)] (by kernel_rfl) 13 rfl (by kernel_rfl) (by kernel_rfl) ?_
  apply go_val pre_kept
  · rintro ρ wr ⟨hg, hn, hc, hf, hgl⟩
    simp only [Need, fat, List.nil_append, List.cons_append, List.getD_cons_zero, List.getD_cons_succ, Fct.hold, and_true] at hn
    refine ⟨by simp [wantP, hn], ?_⟩
    simp [execOp, hn, hc, go_sem]
    exact rfl
  apply go_val pre_kept
  · rintro ρ wr ⟨hg, hn, hc, hf, hgl⟩
    simp only [Need, fat, List.nil_append, List.cons_append, List.getD_cons_zero, List.getD_cons_succ, Fct.hold, and_true] at hn
    refine ⟨by simp [wantP, hn], ?_⟩
    simp [execOp, hn, hc, go_sem]
    exact rfl
  apply go_val pre_kept
  · rintro ρ wr ⟨hg, hn, hc, hf, hgl⟩
    simp only [Need, fat, List.nil_append, List.cons_append, List.getD_cons_zero, List.getD_cons_succ, Fct.hold, and_true] at hn
    refine ⟨by simp [wantP, hn], ?_⟩
    simp [execOp, hn, hc, go_sem]
    exact rfl
  apply go_val pre_kept
  · rintro ρ wr ⟨hg, hn, hc, hf, hgl⟩
    simp only [Need, fat, List.nil_append, List.cons_append, List.getD_cons_zero, List.getD_cons_succ, Fct.hold, and_true] at hn
    have hl := And.intro (hg.cell c0) (hg.cell c1)
    refine ⟨by simp [wantP, hn], ?_⟩
    simp [execOp, hn, hc, hl, go_sem]
    exact rfl
  apply go_val pre_kept
  · rintro ρ wr ⟨hg, hn, hc, hf, hgl⟩
    simp only [Need, fat, List.nil_append, List.cons_append, List.getD_cons_zero, List.getD_cons_succ, Fct.hold, and_true] at hn
    refine ⟨by simp [wantP, hn], ?_⟩
    simp [execOp, hn, hc, go_sem]
    exact rfl
  apply go_val pre_kept
  · rintro ρ wr ⟨hg, hn, hc, hf, hgl⟩
    simp only [Need, fat, List.nil_append, List.cons_append, List.getD_cons_zero, List.getD_cons_succ, Fct.hold, and_true] at hn
    refine ⟨by simp [wantP, hn], ?_⟩
    simp [execOp, hn, hc, go_sem]
    exact rfl
  apply go_val pre_kept
  · rintro ρ wr ⟨hg, hn, hc, hf, hgl⟩
    simp only [Need, fat, List.nil_append, List.cons_append, List.getD_cons_zero, List.getD_cons_succ, Fct.hold, and_true] at hn
    refine ⟨by simp [wantP, hn], ?_⟩
    simp [execOp, hn, hc, go_sem]
    exact rfl
  apply go_val pre_kept
  · rintro ρ wr ⟨hg, hn, hc, hf, hgl⟩
    simp only [Need, fat, List.nil_append, List.cons_append, List.getD_cons_zero, List.getD_cons_succ, Fct.hold, and_true] at hn
    have hl := And.intro (hg.cell c0) (hg.cell c1)
    refine ⟨by simp [wantP, hn], ?_⟩
    simp [execOp, hn, hc, hl, go_sem]
    exact rfl
  apply go_val pre_kept
  · rintro ρ wr ⟨hg, hn, hc, hf, hgl⟩
    simp only [Need, fat, List.nil_append, List.cons_append, List.getD_cons_zero, List.getD_cons_succ, Fct.hold, and_true] at hn
    refine ⟨by simp [wantP, hn], ?_⟩
    simp [execOp, hn, hc, go_sem]
    exact rfl
  apply go_val (x := .bool true) pre_kept
  · rintro ρ wr ⟨hg, hn, hc, hf, hgl⟩
    simp only [Need, fat, List.nil_append, List.cons_append, List.getD_cons_zero, List.getD_cons_succ, Fct.hold, and_true] at hn
    refine ⟨by simp [wantP, hn], ?_⟩
    simp [execOp, hn, hc, go_sem, hlt]
  apply go_val pre_kept
  · rintro ρ wr ⟨hg, hn, hc, hf, hgl⟩
    simp only [Need, fat, List.nil_append, List.cons_append, List.getD_cons_zero, List.getD_cons_succ, Fct.hold, and_true] at hn
    refine ⟨by simp [wantP, hn], ?_⟩
    simp [execOp, hn, hc, go_sem]
    exact rfl
  intro w2 hk2
  simp only [Post, List.nil_append, List.cons_append, Act.put, List.setIfInBounds_toArray, List.set_cons_zero, List.set_cons_succ]
  have HK := Lib.hid hk2
  clear hk2
  rename_i hK
  refine hK _ _ ?_
  clear hK
  go_wp2
  go_ret
  exact ⟨rfl, (Kept.drew (Kept.refl _)).trans HK.out⟩
theorem over_any (g : Nat) (s : ByteArray) (k : Nat) (w : World) (h : w.heap[g]? = some (RO s k)) : Calls Try.prog 27 #[ptr g] w fun e w' => e = .returned (.bool (decide (s.size ≤ k))) ∧ Kept w w' := by
  by_cases hlt : k < s.size
  · rw [show decide (s.size ≤ k) = false from by simp; omega]; exact over_in g s k w h hlt
  · rw [show decide (s.size ≤ k) = true from by simp; omega]; exact over_end g s k w h (by omega)
set_option maxHeartbeats 2000000 in
theorem is_eq (g : Nat) (s : ByteArray) (k c : Nat) (w : World) (h : w.heap[g]? = some (RO s k)) (hlt : k < s.size) (hx : s[k].toNat = c) : Calls Try.prog 45 #[ptr g, .int .u8 c] w fun e w' => e = .returned (.bool true) ∧ Kept w w' := by
  have HR := Lib.hid h
  obtain ⟨⟨c0, c1, -⟩, -⟩ := RO.lay h
  clear h
  obtain ⟨x, hix⟩ : ∃ x : Nat, s[k].toNat = x := ⟨_, rfl⟩
  rw [hix] at hx
  have hxc : (x : Int) = c := by omega
  have hk0 : (0 : Int) ≤ k := by omega
  have hlt2 : (k : Int) < s.size := by omega
  unfold ptr
  go_enter Try.func45, Try.ntmps45
  go_wp2
  refine wp_region_go Kept pre_kept [([(0, none)], none), ([(5, some 0)], none), ([(6, some 1)], none), ([(7, some 2)], none), ([(0, none), (8, some 3)], some (8, true)), ([(9, some 4), (8, some 3)], some (8, true)), ([(10, some 5), (8, some 3)], some (8, true)), ([(11, some 6), (8, some 3)], some (8, true)), ([(0, none), (8, some 3)], some (8, true)), ([(13, some 8), (8, some 3)], some (8, true)), ([(14, some 9), (8, some 3)], some (8, true)), ([(15, some 10), (8, some 3)], some (8, true)), ([(12, some 7), (16, some 11), (8, some 3)], some (8, true)), ([(1, none), (8, some 3)], some (8, true)), ([(17, some 12), (18, some 13), (8, some 3)], some (8, true)), ([(8, some 3), (19, some 14)], none), ([(20, some 15)], none)] (by kernel_rfl) 21 rfl (by kernel_rfl) (by kernel_rfl) ?_
  apply go_val pre_kept
  · rintro ρ wr ⟨hg, hn, hc, hf, hgl⟩
    simp only [Need, fat, List.nil_append, List.cons_append, List.getD_cons_zero, List.getD_cons_succ, Fct.hold, and_true] at hn
    refine ⟨by simp [wantP, hn], ?_⟩
    simp [execOp, hn, hc, go_sem]
    exact rfl
  apply go_callv (x := .bool false)
  · rintro ρ wr ⟨hg, hn, hc, hf, hgl⟩
    simp only [Need, fat, List.nil_append, List.cons_append, List.getD_cons_zero, List.getD_cons_succ, Fct.hold, and_true] at hn
    refine ⟨by simp [wantP, hn], _, _, by simp [execOp, hn, hf, hc, resolve, invoke, go_sem]; exact ⟨rfl, rfl⟩, ?_⟩
    exact (over_in g s k _ (((Kept.drew (Kept.refl _)).trans hg).blk HR.out) hlt).mono fun e w' ⟨h1, h2⟩ => ⟨_, h1, rfl, h2⟩
  apply go_val (x := .bool true) pre_kept
  · rintro ρ wr ⟨hg, hn, hc, hf, hgl⟩
    simp only [Need, fat, List.nil_append, List.cons_append, List.getD_cons_zero, List.getD_cons_succ, Fct.hold, and_true] at hn
    refine ⟨by simp [wantP, hn], ?_⟩
    simp [execOp, hn, hc, go_sem]
  apply go_val (x := .bool true) pre_kept
  · rintro ρ wr ⟨hg, hn, hc, hf, hgl⟩
    simp only [Need, fat, List.nil_append, List.cons_append, List.getD_cons_zero, List.getD_cons_succ, Fct.hold, and_true] at hn
    refine ⟨by simp [wantP, hn], ?_⟩
    simp [execOp, hn, hc, go_sem]
  apply go_val pre_kept
  · rintro ρ wr ⟨hg, hn, hc, hf, hgl⟩
    simp only [Need, fat, List.nil_append, List.cons_append, List.getD_cons_zero, List.getD_cons_succ, Fct.hold, and_true] at hn
    refine ⟨by simp [wantP, hn], ?_⟩
    simp [execOp, hn, hc, go_sem]
    exact rfl
  apply go_val pre_kept
  · rintro ρ wr ⟨hg, hn, hc, hf, hgl⟩
    simp only [Need, fat, List.nil_append, List.cons_append, List.getD_cons_zero, List.getD_cons_succ, Fct.hold, and_true] at hn
    refine ⟨by simp [wantP, hn], ?_⟩
    simp [execOp, hn, hc, go_sem]
    exact rfl
  apply go_val pre_kept
  · rintro ρ wr ⟨hg, hn, hc, hf, hgl⟩
    simp only [Need, fat, List.nil_append, List.cons_append, List.getD_cons_zero, List.getD_cons_succ, Fct.hold, and_true] at hn
    refine ⟨by simp [wantP, hn], ?_⟩
    simp [execOp, hn, hc, go_sem]
    exact rfl
  apply go_val pre_kept
  · rintro ρ wr ⟨hg, hn, hc, hf, hgl⟩
    simp only [Need, fat, List.nil_append, List.cons_append, List.getD_cons_zero, List.getD_cons_succ, Fct.hold, and_true] at hn
    have hl := And.intro (hg.cell c0) (hg.cell c1)
    refine ⟨by simp [wantP, hn], ?_⟩
    simp [execOp, hn, hc, hl, go_sem]
    exact rfl
  apply go_val pre_kept
  · rintro ρ wr ⟨hg, hn, hc, hf, hgl⟩
    simp only [Need, fat, List.nil_append, List.cons_append, List.getD_cons_zero, List.getD_cons_succ, Fct.hold, and_true] at hn
    refine ⟨by simp [wantP, hn], ?_⟩
    simp [execOp, hn, hc, go_sem]
    exact rfl
  apply go_val pre_kept
  · rintro ρ wr ⟨hg, hn, hc, hf, hgl⟩
    simp only [Need, fat, List.nil_append, List.cons_append, List.getD_cons_zero, List.getD_cons_succ, Fct.hold, and_true] at hn
    refine ⟨by simp [wantP, hn], ?_⟩
    simp [execOp, hn, hc, go_sem]
    exact rfl
  apply go_val pre_kept
  · rintro ρ wr ⟨hg, hn, hc, hf, hgl⟩
    simp only [Need, fat, List.nil_append, List.cons_append, List.getD_cons_zero, List.getD_cons_succ, Fct.hold, and_true] at hn
    refine ⟨by simp [wantP, hn], ?_⟩
    simp [execOp, hn, hc, go_sem]
    exact rfl
  apply go_val pre_kept
  · rintro ρ wr ⟨hg, hn, hc, hf, hgl⟩
    simp only [Need, fat, List.nil_append, List.cons_append, List.getD_cons_zero, List.getD_cons_succ, Fct.hold, and_true] at hn
    have hl := And.intro (hg.cell c0) (hg.cell c1)
    refine ⟨by simp [wantP, hn], ?_⟩
    simp [execOp, hn, hc, hl, go_sem]
    exact rfl
  apply go_val (x := .int .u8 (x : Int)) pre_kept
  · rintro ρ wr ⟨hg, hn, hc, hf, hgl⟩
    simp only [Need, fat, List.nil_append, List.cons_append, List.getD_cons_zero, List.getD_cons_succ, Fct.hold, and_true] at hn
    refine ⟨by simp [wantP, hn], ?_⟩
    simp [execOp, hn, hc, go_sem, hix, hlt2, hk0]
  apply go_val pre_kept
  · rintro ρ wr ⟨hg, hn, hc, hf, hgl⟩
    simp only [Need, fat, List.nil_append, List.cons_append, List.getD_cons_zero, List.getD_cons_succ, Fct.hold, and_true] at hn
    refine ⟨by simp [wantP, hn], ?_⟩
    simp [execOp, hn, hc, go_sem]
    exact rfl
  apply go_val (x := .bool true) pre_kept
  · rintro ρ wr ⟨hg, hn, hc, hf, hgl⟩
    simp only [Need, fat, List.nil_append, List.cons_append, List.getD_cons_zero, List.getD_cons_succ, Fct.hold, and_true] at hn
    refine ⟨by simp [wantP, hn], ?_⟩
    simp [execOp, hn, hc, go_sem, hxc]
  apply go_val (x := .bool true) pre_kept
  · rintro ρ wr ⟨hg, hn, hc, hf, hgl⟩
    simp only [Need, fat, List.nil_append, List.cons_append, List.getD_cons_zero, List.getD_cons_succ, Fct.hold, and_true] at hn
    refine ⟨by simp [wantP, hn], ?_⟩
    simp [execOp, hn, hc, go_sem]
  apply go_val pre_kept
  · rintro ρ wr ⟨hg, hn, hc, hf, hgl⟩
    simp only [Need, fat, List.nil_append, List.cons_append, List.getD_cons_zero, List.getD_cons_succ, Fct.hold, and_true] at hn
    refine ⟨by simp [wantP, hn], ?_⟩
    simp [execOp, hn, hc, go_sem]
    exact rfl
  intro w2 hk2
  simp only [Post, List.nil_append, List.cons_append, Act.put, List.setIfInBounds_toArray, List.set_cons_zero, List.set_cons_succ]
  have HK := Lib.hid hk2
  clear hk2
  rename_i hK
  refine hK _ _ ?_
  clear hK
  go_wp2
  go_ret
  exact ⟨rfl, (Kept.drew (Kept.refl _)).trans HK.out⟩
set_option maxHeartbeats 2000000 in
theorem is_ne (g : Nat) (s : ByteArray) (k c : Nat) (w : World) (h : w.heap[g]? = some (RO s k)) (hlt : k < s.size) (hx : ¬ s[k].toNat = c) : Calls Try.prog 45 #[ptr g, .int .u8 c] w fun e w' => e = .returned (.bool false) ∧ Kept w w' := by
  have HR := Lib.hid h
  obtain ⟨⟨c0, c1, -⟩, -⟩ := RO.lay h
  clear h
  obtain ⟨x, hix⟩ : ∃ x : Nat, s[k].toNat = x := ⟨_, rfl⟩
  rw [hix] at hx
  have hxc : ¬ (x : Int) = c := by omega
  have hk0 : (0 : Int) ≤ k := by omega
  have hlt2 : (k : Int) < s.size := by omega
  unfold ptr
  go_enter Try.func45, Try.ntmps45
  go_wp2
  refine wp_region_go Kept pre_kept [([(0, none)], none), ([(5, some 0)], none), ([(6, some 1)], none), ([(7, some 2)], none), ([(0, none), (8, some 3)], some (8, true)), ([(9, some 4), (8, some 3)], some (8, true)), ([(10, some 5), (8, some 3)], some (8, true)), ([(11, some 6), (8, some 3)], some (8, true)), ([(0, none), (8, some 3)], some (8, true)), ([(13, some 8), (8, some 3)], some (8, true)), ([(14, some 9), (8, some 3)], some (8, true)), ([(15, some 10), (8, some 3)], some (8, true)), ([(12, some 7), (16, some 11), (8, some 3)], some (8, true)), ([(1, none), (8, some 3)], some (8, true)), ([(17, some 12), (18, some 13), (8, some 3)], some (8, true)), ([(8, some 3), (19, some 14)], none), ([(20, some 15)], none)] (by kernel_rfl) 21 rfl (by kernel_rfl) (by kernel_rfl) ?_
  apply go_val pre_kept
  · rintro ρ wr ⟨hg, hn, hc, hf, hgl⟩
    simp only [Need, fat, List.nil_append, List.cons_append, List.getD_cons_zero, List.getD_cons_succ, Fct.hold, and_true] at hn
    refine ⟨by simp [wantP, hn], ?_⟩
    simp [execOp, hn, hc, go_sem]
    exact rfl
  apply go_callv (x := .bool false)
  · rintro ρ wr ⟨hg, hn, hc, hf, hgl⟩
    simp only [Need, fat, List.nil_append, List.cons_append, List.getD_cons_zero, List.getD_cons_succ, Fct.hold, and_true] at hn
    refine ⟨by simp [wantP, hn], _, _, by simp [execOp, hn, hf, hc, resolve, invoke, go_sem]; exact ⟨rfl, rfl⟩, ?_⟩
    exact (over_in g s k _ (((Kept.drew (Kept.refl _)).trans hg).blk HR.out) hlt).mono fun e w' ⟨h1, h2⟩ => ⟨_, h1, rfl, h2⟩
  apply go_val (x := .bool true) pre_kept
  · rintro ρ wr ⟨hg, hn, hc, hf, hgl⟩
    simp only [Need, fat, List.nil_append, List.cons_append, List.getD_cons_zero, List.getD_cons_succ, Fct.hold, and_true] at hn
    refine ⟨by simp [wantP, hn], ?_⟩
    simp [execOp, hn, hc, go_sem]
  apply go_val (x := .bool true) pre_kept
  · rintro ρ wr ⟨hg, hn, hc, hf, hgl⟩
    simp only [Need, fat, List.nil_append, List.cons_append, List.getD_cons_zero, List.getD_cons_succ, Fct.hold, and_true] at hn
    refine ⟨by simp [wantP, hn], ?_⟩
    simp [execOp, hn, hc, go_sem]
  apply go_val pre_kept
  · rintro ρ wr ⟨hg, hn, hc, hf, hgl⟩
    simp only [Need, fat, List.nil_append, List.cons_append, List.getD_cons_zero, List.getD_cons_succ, Fct.hold, and_true] at hn
    refine ⟨by simp [wantP, hn], ?_⟩
    simp [execOp, hn, hc, go_sem]
    exact rfl
  apply go_val pre_kept
  · rintro ρ wr ⟨hg, hn, hc, hf, hgl⟩
    simp only [Need, fat, List.nil_append, List.cons_append, List.getD_cons_zero, List.getD_cons_succ, Fct.hold, and_true] at hn
    refine ⟨by simp [wantP, hn], ?_⟩
    simp [execOp, hn, hc, go_sem]
    exact rfl
  apply go_val pre_kept
  · rintro ρ wr ⟨hg, hn, hc, hf, hgl⟩
    simp only [Need, fat, List.nil_append, List.cons_append, List.getD_cons_zero, List.getD_cons_succ, Fct.hold, and_true] at hn
    refine ⟨by simp [wantP, hn], ?_⟩
    simp [execOp, hn, hc, go_sem]
    exact rfl
  apply go_val pre_kept
  · rintro ρ wr ⟨hg, hn, hc, hf, hgl⟩
    simp only [Need, fat, List.nil_append, List.cons_append, List.getD_cons_zero, List.getD_cons_succ, Fct.hold, and_true] at hn
    have hl := And.intro (hg.cell c0) (hg.cell c1)
    refine ⟨by simp [wantP, hn], ?_⟩
    simp [execOp, hn, hc, hl, go_sem]
    exact rfl
  apply go_val pre_kept
  · rintro ρ wr ⟨hg, hn, hc, hf, hgl⟩
    simp only [Need, fat, List.nil_append, List.cons_append, List.getD_cons_zero, List.getD_cons_succ, Fct.hold, and_true] at hn
    refine ⟨by simp [wantP, hn], ?_⟩
    simp [execOp, hn, hc, go_sem]
    exact rfl
  apply go_val pre_kept
  · rintro ρ wr ⟨hg, hn, hc, hf, hgl⟩
    simp only [Need, fat, List.nil_append, List.cons_append, List.getD_cons_zero, List.getD_cons_succ, Fct.hold, and_true] at hn
    refine ⟨by simp [wantP, hn], ?_⟩
    simp [execOp, hn, hc, go_sem]
    exact rfl
  apply go_val pre_kept
  · rintro ρ wr ⟨hg, hn, hc, hf, hgl⟩
    simp only [Need, fat, List.nil_append, List.cons_append, List.getD_cons_zero, List.getD_cons_succ, Fct.hold, and_true] at hn
    refine ⟨by simp [wantP, hn], ?_⟩
    simp [execOp, hn, hc, go_sem]
    exact rfl
  apply go_val pre_kept
  · rintro ρ wr ⟨hg, hn, hc, hf, hgl⟩
    simp only [Need, fat, List.nil_append, List.cons_append, List.getD_cons_zero, List.getD_cons_succ, Fct.hold, and_true] at hn
    have hl := And.intro (hg.cell c0) (hg.cell c1)
    refine ⟨by simp [wantP, hn], ?_⟩
    simp [execOp, hn, hc, hl, go_sem]
    exact rfl
  apply go_val (x := .int .u8 (x : Int)) pre_kept
  · rintro ρ wr ⟨hg, hn, hc, hf, hgl⟩
    simp only [Need, fat, List.nil_append, List.cons_append, List.getD_cons_zero, List.getD_cons_succ, Fct.hold, and_true] at hn
    refine ⟨by simp [wantP, hn], ?_⟩
    simp [execOp, hn, hc, go_sem, hix, hlt2, hk0]
  apply go_val pre_kept
  · rintro ρ wr ⟨hg, hn, hc, hf, hgl⟩
    simp only [Need, fat, List.nil_append, List.cons_append, List.getD_cons_zero, List.getD_cons_succ, Fct.hold, and_true] at hn
    refine ⟨by simp [wantP, hn], ?_⟩
    simp [execOp, hn, hc, go_sem]
    exact rfl
  apply go_val (x := .bool false) pre_kept
  · rintro ρ wr ⟨hg, hn, hc, hf, hgl⟩
    simp only [Need, fat, List.nil_append, List.cons_append, List.getD_cons_zero, List.getD_cons_succ, Fct.hold, and_true] at hn
    refine ⟨by simp [wantP, hn], ?_⟩
    simp [execOp, hn, hc, go_sem, hxc]
  apply go_val (x := .bool false) pre_kept
  · rintro ρ wr ⟨hg, hn, hc, hf, hgl⟩
    simp only [Need, fat, List.nil_append, List.cons_append, List.getD_cons_zero, List.getD_cons_succ, Fct.hold, and_true] at hn
    refine ⟨by simp [wantP, hn], ?_⟩
    simp [execOp, hn, hc, go_sem]
  apply go_val pre_kept
  · rintro ρ wr ⟨hg, hn, hc, hf, hgl⟩
    simp only [Need, fat, List.nil_append, List.cons_append, List.getD_cons_zero, List.getD_cons_succ, Fct.hold, and_true] at hn
    refine ⟨by simp [wantP, hn], ?_⟩
    simp [execOp, hn, hc, go_sem]
    exact rfl
  intro w2 hk2
  simp only [Post, List.nil_append, List.cons_append, Act.put, List.setIfInBounds_toArray, List.set_cons_zero, List.set_cons_succ]
  have HK := Lib.hid hk2
  clear hk2
  rename_i hK
  refine hK _ _ ?_
  clear hK
  go_wp2
  go_ret
  exact ⟨rfl, (Kept.drew (Kept.refl _)).trans HK.out⟩
set_option maxHeartbeats 2000000 in
theorem is_end (g : Nat) (s : ByteArray) (k c : Nat) (w : World) (h : w.heap[g]? = some (RO s k)) (hlt : s.size ≤ k) : Calls Try.prog 45 #[ptr g, .int .u8 c] w fun e w' => e = .returned (.bool false) ∧ Kept w w' := by
  have HR := Lib.hid h
  obtain ⟨⟨c0, c1, -⟩, -⟩ := RO.lay h
  clear h
  unfold ptr
  go_enter Try.func45, Try.ntmps45
  go_wp2
  refine wp_region_go Kept pre_kept [([(0, none)], none), ([(5, some 0)], none), ([(6, some 1)], none), ([(7, some 2)], none), ([(0, none), (8, some 3)], some (8, true)), ([(9, some 4), (8, some 3)], some (8, true)), ([(10, some 5), (8, some 3)], some (8, true)), ([(11, some 6), (8, some 3)], some (8, true)), ([(0, none), (8, some 3)], some (8, true)), ([(13, some 8), (8, some 3)], some (8, true)), ([(14, some 9), (8, some 3)], some (8, true)), ([(15, some 10), (8, some 3)], some (8, true)), ([(12, some 7), (16, some 11), (8, some 3)], some (8, true)), ([(1, none), (8, some 3)], some (8, true)), ([(17, some 12), (18, some 13), (8, some 3)], some (8, true)), ([(8, some 3), (19, some 14)], none), ([(20, some 15)], none)] (by kernel_rfl) 21 rfl (by kernel_rfl) (by kernel_rfl) ?_
  apply go_val pre_kept
  · rintro ρ wr ⟨hg, hn, hc, hf, hgl⟩
    simp only [Need, fat, List.nil_append, List.cons_append, List.getD_cons_zero, List.getD_cons_succ, Fct.hold, and_true] at hn
    refine ⟨by simp [wantP, hn], ?_⟩
    simp [execOp, hn, hc, go_sem]
    exact rfl
  apply go_callv (x := .bool true)
  · rintro ρ wr ⟨hg, hn, hc, hf, hgl⟩
    simp only [Need, fat, List.nil_append, List.cons_append, List.getD_cons_zero, List.getD_cons_succ, Fct.hold, and_true] at hn
    refine ⟨by simp [wantP, hn], _, _, by simp [execOp, hn, hf, hc, resolve, invoke, go_sem]; exact ⟨rfl, rfl⟩, ?_⟩
    exact (over_end g s k _ (((Kept.drew (Kept.refl _)).trans hg).blk HR.out) hlt).mono fun e w' ⟨h1, h2⟩ => ⟨_, h1, rfl, h2⟩
  apply go_val (x := .bool false) pre_kept
  · rintro ρ wr ⟨hg, hn, hc, hf, hgl⟩
    simp only [Need, fat, List.nil_append, List.cons_append, List.getD_cons_zero, List.getD_cons_succ, Fct.hold, and_true] at hn
    refine ⟨by simp [wantP, hn], ?_⟩
    simp [execOp, hn, hc, go_sem]
  apply go_val (x := .bool false) pre_kept
  · rintro ρ wr ⟨hg, hn, hc, hf, hgl⟩
    simp only [Need, fat, List.nil_append, List.cons_append, List.getD_cons_zero, List.getD_cons_succ, Fct.hold, and_true] at hn
    refine ⟨by simp [wantP, hn], ?_⟩
    simp [execOp, hn, hc, go_sem]
  refine go_not pre_kept ?_ ?_
  · rintro ρ wr ⟨hg, hn, hc, hf, hgl⟩
    simp only [Need, fat, List.nil_append, List.cons_append, List.getD_cons_zero, List.getD_cons_succ, Fct.hold, and_true] at hn
    simp [wantP, hn]
  refine go_not pre_kept ?_ ?_
  · rintro ρ wr ⟨hg, hn, hc, hf, hgl⟩
    simp only [Need, fat, List.nil_append, List.cons_append, List.getD_cons_zero, List.getD_cons_succ, Fct.hold, and_true] at hn
    simp [wantP, hn]
  refine go_not pre_kept ?_ ?_
  · rintro ρ wr ⟨hg, hn, hc, hf, hgl⟩
    simp only [Need, fat, List.nil_append, List.cons_append, List.getD_cons_zero, List.getD_cons_succ, Fct.hold, and_true] at hn
    simp [wantP, hn]
  refine go_not pre_kept ?_ ?_
  · rintro ρ wr ⟨hg, hn, hc, hf, hgl⟩
    simp only [Need, fat, List.nil_append, List.cons_append, List.getD_cons_zero, List.getD_cons_succ, Fct.hold, and_true] at hn
    simp [wantP, hn]
  refine go_not pre_kept ?_ ?_
  · rintro ρ wr ⟨hg, hn, hc, hf, hgl⟩
    simp only [Need, fat, List.nil_append, List.cons_append, List.getD_cons_zero, List.getD_cons_succ, Fct.hold, and_true] at hn
    simp [wantP, hn]
  refine go_not pre_kept ?_ ?_
  · rintro ρ wr ⟨hg, hn, hc, hf, hgl⟩
    simp only [Need, fat, List.nil_append, List.cons_append, List.getD_cons_zero, List.getD_cons_succ, Fct.hold, and_true] at hn
    simp [wantP, hn]
  refine go_not pre_kept ?_ ?_
  · rintro ρ wr ⟨hg, hn, hc, hf, hgl⟩
    simp only [Need, fat, List.nil_append, List.cons_append, List.getD_cons_zero, List.getD_cons_succ, Fct.hold, and_true] at hn
    simp [wantP, hn]
  refine go_not pre_kept ?_ ?_
  · rintro ρ wr ⟨hg, hn, hc, hf, hgl⟩
    simp only [Need, fat, List.nil_append, List.cons_append, List.getD_cons_zero, List.getD_cons_succ, Fct.hold, and_true] at hn
    simp [wantP, hn]
  refine go_not pre_kept ?_ ?_
  · rintro ρ wr ⟨hg, hn, hc, hf, hgl⟩
    simp only [Need, fat, List.nil_append, List.cons_append, List.getD_cons_zero, List.getD_cons_succ, Fct.hold, and_true] at hn
    simp [wantP, hn]
  refine go_not pre_kept ?_ ?_
  · rintro ρ wr ⟨hg, hn, hc, hf, hgl⟩
    simp only [Need, fat, List.nil_append, List.cons_append, List.getD_cons_zero, List.getD_cons_succ, Fct.hold, and_true] at hn
    simp [wantP, hn]
  refine go_not pre_kept ?_ ?_
  · rintro ρ wr ⟨hg, hn, hc, hf, hgl⟩
    simp only [Need, fat, List.nil_append, List.cons_append, List.getD_cons_zero, List.getD_cons_succ, Fct.hold, and_true] at hn
    simp [wantP, hn]
  apply go_val (x := .bool false) pre_kept
  · rintro ρ wr ⟨hg, hn, hc, hf, hgl⟩
    simp only [Need, fat, List.nil_append, List.cons_append, List.getD_cons_zero, List.getD_cons_succ, Fct.hold, and_true] at hn
    refine ⟨by simp [wantP, hn], ?_⟩
    simp [execOp, hn, hc, go_sem]
  apply go_val pre_kept
  · rintro ρ wr ⟨hg, hn, hc, hf, hgl⟩
    simp only [Need, fat, List.nil_append, List.cons_append, List.getD_cons_zero, List.getD_cons_succ, Fct.hold, and_true] at hn
    refine ⟨by simp [wantP, hn], ?_⟩
    simp [execOp, hn, hc, go_sem]
    exact rfl
  intro w2 hk2
  simp only [Post, List.nil_append, List.cons_append, Act.put, List.setIfInBounds_toArray, List.set_cons_zero, List.set_cons_succ]
  have HK := Lib.hid hk2
  clear hk2
  rename_i hK
  refine hK _ _ ?_
  clear hK
  go_wp2
  go_ret
  exact ⟨rfl, (Kept.drew (Kept.refl _)).trans HK.out⟩
theorem is_any (g : Nat) (s : ByteArray) (k : Nat) (c : UInt8) (w : World) (h : w.heap[g]? = some (RO s k)) : Calls Try.prog 45 #[ptr g, .int .u8 c.toNat] w fun e w' => e = .returned (.bool (byteAt s k == some c)) ∧ Kept w w' := by
  by_cases hlt : k < s.size
  · rw [byteAt_some hlt]
    by_cases hx : s[k].toNat = c.toNat
    · refine (is_eq g s k c.toNat w h hlt hx).mono fun e w' ⟨h1, h2⟩ => ⟨?_, h2⟩
      rw [h1]; simp [UInt8.toNat_inj.1 hx]
    · refine (is_ne g s k c.toNat w h hlt hx).mono fun e w' ⟨h1, h2⟩ => ⟨?_, h2⟩
      rw [h1]
      have : ¬ s[k] = c := fun e => hx (by rw [e])
      simp [this]
  · rw [byteAt_none hlt]
    exact is_end g s k c.toNat w h (by omega)
theorem fail_any (g : Nat) (s : ByteArray) (k er j : Nat) (w : World) (h : w.heap[g]? = some (RO s k)) : Calls Try.prog 28 #[ptr g, .int .i64 er, .int .i64 j] w fun e w' => e = .returned (.tuple #[]) ∧ w'.heap[g]? = some (RF s k er j) ∧ Gr g w w' := by
  obtain ⟨⟨c0, c1, c2, c3⟩, f0, f1, f2, f3⟩ := RO.lay h
  have HR := Lib.hid h
  clear h
  unfold ptr
  go_enter Try.func28, Try.ntmps28
  go_wp2
  go_end0
  refine ⟨rfl, ?_, ((Gr.refl g w).set (.inl rfl) _).set (.inl rfl) _⟩
  have := HR.out
  unfold RO RF at *
  simp [World.setCell, Array.getElem?_modify, this]
theorem special_any (c : UInt8) (w : World) : Calls Try.prog 60 #[.int .u8 c.toNat] w fun e w' => e = .returned (.bool (marks.contains c)) ∧ w = w' := by
  have e1 : ∀ d : UInt8, (c = d) ↔ (c.toNat = d.toNat) := fun d => UInt8.toNat_inj.symm
  have hm : marks.contains c = decide (c.toNat = 124 ∨ c.toNat = 42 ∨ c.toNat = 43 ∨ c.toNat = 63 ∨ c.toNat = 40 ∨ c.toNat = 41 ∨ c.toNat = 91 ∨ c.toNat = 93) := by
    rw [Bool.eq_iff_iff]
    simp only [marks, List.contains_cons, List.contains_nil, Bool.or_false, Bool.or_eq_true, beq_iff_eq, e1, decide_eq_true_eq]
    rfl
  rw [hm]
  generalize c.toNat = n
  by_cases h0 : n = 124
  · subst h0
    go_enter Try.func60, Try.ntmps60
    go_wp2
    go_ret
    exact ⟨rfl, rfl⟩
  by_cases h1 : n = 42
  · subst h1
    go_enter Try.func60, Try.ntmps60
    go_wp2
    go_ret
    exact ⟨rfl, rfl⟩
  by_cases h2 : n = 43
  · subst h2
    go_enter Try.func60, Try.ntmps60
    go_wp2
    go_ret
    exact ⟨rfl, rfl⟩
  by_cases h3 : n = 63
  · subst h3
    go_enter Try.func60, Try.ntmps60
    go_wp2
    go_ret
    exact ⟨rfl, rfl⟩
  by_cases h4 : n = 40
  · subst h4
    go_enter Try.func60, Try.ntmps60
    go_wp2
    go_ret
    exact ⟨rfl, rfl⟩
  by_cases h5 : n = 41
  · subst h5
    go_enter Try.func60, Try.ntmps60
    go_wp2
    go_ret
    exact ⟨rfl, rfl⟩
  by_cases h6 : n = 91
  · subst h6
    go_enter Try.func60, Try.ntmps60
    go_wp2
    go_ret
    exact ⟨rfl, rfl⟩
  by_cases h7 : n = 93
  · subst h7
    go_enter Try.func60, Try.ntmps60
    go_wp2
    go_ret
    exact ⟨rfl, rfl⟩
  have i0 : ¬ (n : Int) = 124 := by omega
  have i1 : ¬ (n : Int) = 42 := by omega
  have i2 : ¬ (n : Int) = 43 := by omega
  have i3 : ¬ (n : Int) = 63 := by omega
  have i4 : ¬ (n : Int) = 40 := by omega
  have i5 : ¬ (n : Int) = 41 := by omega
  have i6 : ¬ (n : Int) = 91 := by omega
  have i7 : ¬ (n : Int) = 93 := by omega
  rw [show decide (n = 124 ∨ n = 42 ∨ n = 43 ∨ n = 63 ∨ n = 40 ∨ n = 41 ∨ n = 91 ∨ n = 93) = false from by simp [h0, h1, h2, h3, h4, h5, h6, h7]]
  have e : ((n : Int) == 124 || (n : Int) == 42 || (n : Int) == 43 || (n : Int) == 63 || (n : Int) == 40 || (n : Int) == 41 || (n : Int) == 91 || (n : Int) == 93) = false := by simp; omega
  have HE := Lib.hid e
  clear e h0 h1 h2 h3 h4 h5 h6 h7
  go_enter Try.func60, Try.ntmps60
  go_wp2
  go_ret
  exact ⟨congrArg (fun b => Ending.returned (Value.bool b)) HE.out, rfl⟩
end Go.Proofs.Ytdbffbdpofodmaa
