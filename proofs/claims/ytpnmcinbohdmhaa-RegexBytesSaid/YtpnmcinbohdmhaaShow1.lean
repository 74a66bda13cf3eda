/-
  How a set of one byte is shown. Conditions: none.
-/
import Derived.Test.YtpnmcinbohdmhaaRuns
set_option linter.unusedSimpArgs false
namespace Go.Proofs.Ytpnmcinbohdmhaa
open Go Go.RowKit Kit
def guardedL : List UInt8 := [124, 42, 43, 63, 40, 41, 91, 93, 46, 92]
def showT (c : UInt8) : ByteArray := if guardedL.contains c then ⟨#[92, c]⟩ else ⟨#[c]⟩
theorem guard_ge (c : UInt8) : (0 ≤ Lib.indexByte [124, 42, 43, 63, 40, 41, 91, 93, 46, 92] c) = (guardedL.contains c = true) := by
  have : ∀ c : Fin 256, decide (0 ≤ Lib.indexByte [124, 42, 43, 63, 40, 41, 91, 93, 46, 92] (UInt8.ofNat c.val)) = guardedL.contains (UInt8.ofNat c.val) := by decide +kernel
  have h := this ⟨c.toNat, c.toNat_lt⟩
  simp only [UInt8.ofNat_toNat] at h
  rw [← h]
  simp
theorem conv1 (w : World) (c : UInt8) : (convert 41 9 (.slice (some ⟨w.heap.size, 0, none⟩) 1 1)).run Try.prog (w.alloc (.cells #[.int .u8 c.toNat] 5)) = .ok (.string ⟨#[c]⟩) (w.alloc (.cells #[.int .u8 c.toNat] 5)) := by
  have h : Bs (w.alloc (.cells #[.int .u8 c.toNat] 5)) (.slice (some ⟨w.heap.size, 0, none⟩) 1 1) [c] := Bs.lit (l := [c]) (blk_new w _) (by rfl) (by show 1 ≤ maxLen; decide)
  exact h.str 41 9 5 (by kernel_rfl) (by kernel_rfl) (by kernel_rfl)
theorem conv2 (w : World) (c : UInt8) : (convert 41 9 (.slice (some ⟨w.heap.size, 0, none⟩) 2 2)).run Try.prog (w.alloc (.cells #[.int .u8 92, .int .u8 c.toNat] 5)) = .ok (.string ⟨#[92, c]⟩) (w.alloc (.cells #[.int .u8 92, .int .u8 c.toNat] 5)) := by
  have h : Bs (w.alloc (.cells #[.int .u8 92, .int .u8 c.toNat] 5)) (.slice (some ⟨w.heap.size, 0, none⟩) 2 2) [92, c] := Bs.lit (l := [92, c]) (blk_new w _) (by rfl) (by show 2 ≤ maxLen; decide)
  exact h.str 41 9 5 (by kernel_rfl) (by kernel_rfl) (by kernel_rfl)
set_option maxRecDepth 100000 in
theorem guard_any (c : UInt8) (w : World) : Calls Try.prog 39 #[.int .u8 c.toNat, .string ⟨#[124, 42, 43, 63, 40, 41, 91, 93, 46, 92]⟩] w fun e w' => e = .returned (.string (showT c)) ∧ Kept w w' := by
  have h1 := conv1 w c
  have h2 := conv2 w c
  have hu : c.toNat.toUInt8 = c := by simp
  by_cases hm : 0 ≤ Lib.indexByte [124, 42, 43, 63, 40, 41, 91, 93, 46, 92] c
  · clear h1
    have hc := hm
    rw [guard_ge] at hc
    have HS : Hid (showT c = ⟨#[92, c]⟩) := Lib.hid (by unfold showT; rw [if_pos hc])
    rw [HS.out]
    clear hc
    go_enter Try.func39, Try.ntmps39
    go_wp2_with fail
    refine (index_any _ _ _).mono ?_
    rintro e w3 ⟨rfl, rfl⟩
    simp only [Int.toNat_natCast, hu]
    obtain ⟨z, hz⟩ : ∃ z, Lib.indexByte [124, 42, 43, 63, 40, 41, 91, 93, 46, 92] c = z := ⟨_, rfl⟩
    rw [hz] at hm ⊢
    clear hz
    go_wp2_with fail
    go_ret
    exact ⟨rfl, (Kept.refl _).alloc _⟩
  · clear h2
    have hc := hm
    rw [guard_ge] at hc
    have HS : Hid (showT c = ⟨#[c]⟩) := Lib.hid (by unfold showT; rw [if_neg hc])
    rw [HS.out]
    clear hc
    go_enter Try.func39, Try.ntmps39
    go_wp2_with fail
    refine (index_any _ _ _).mono ?_
    rintro e w3 ⟨rfl, rfl⟩
    simp only [Int.toNat_natCast, hu]
    obtain ⟨z, hz⟩ : ∃ z, Lib.indexByte [124, 42, 43, 63, 40, 41, 91, 93, 46, 92] c = z := ⟨_, rfl⟩
    rw [hz] at hm ⊢
    clear hz
    go_wp2_with fail
    go_ret
    exact ⟨rfl, (Kept.refl _).alloc _⟩
set_option maxHeartbeats 2000000 in
theorem showSet_any (X : BitVec 256) (c : UInt8) (hX : ∀ i, X.getLsbD i = decide (i = c.toNat)) (w : World) : Calls Try.prog 32 #[.agg #[.int .u64 (wdN X 0), .int .u64 (wdN X 1), .int .u64 (wdN X 2), .int .u64 (wdN X 3)]] w fun e w' => e = .returned (.string (showT c)) ∧ Kept w w' := by
  have hcn : c.toNat ≤ 255 := by have := c.toNat_lt; omega
  have HR := fun w => Lib.hid (runs_any X c.toNat hcn hX w)
  have HK := Lib.hid ((Kept.refl w).alloc (.cells #[.int .u64 (wdN X 0), .int .u64 (wdN X 1), .int .u64 (wdN X 2), .int .u64 (wdN X 3)] 24))
  clear hX
  go_enter Try.func32, Try.ntmps32
  go_wp2_with fail
  refine (HR _).out.mono ?_
  rintro e w1 ⟨q, cap, rfl, a0, a1, hk⟩
  have hql := World.block_lt_of_cell? w1 _ a0
  replace HK := Lib.hid (HK.out.trans hk)
  clear hk HR hql
  go_wp2_with fail
  refine wp_region_go Kept pre_kept [([(3, none)], none), ([(9, some 0)], none), ([(10, some 1)], none), ([(11, some 2)], none), ([(3, none), (12, some 3)], some (12, true)), ([(13, some 4), (12, some 3)], some (12, true)), ([(14, some 5), (12, some 3)], some (12, true)), ([(15, some 6), (12, some 3)], some (12, true)), ([(3, none), (12, some 3)], some (12, true)), ([(17, some 8), (12, some 3)], some (12, true)), ([(18, some 9), (12, some 3)], some (12, true)), ([(19, some 10), (12, some 3)], some (12, true)), ([(16, some 7), (20, some 11), (12, some 3)], some (12, true)), ([(12, some 3), (21, some 12)], none)] (by kernel_rfl) 44 rfl (by kernel_rfl) (by kernel_rfl) ?_
  apply go_val pre_kept
  · rintro ρ wr ⟨hg, hn, hc, hf, hgl⟩
    simp only [Need, fat, List.nil_append, List.cons_append, List.getD_cons_zero, List.getD_cons_succ, Fct.hold, and_true] at hn
    refine ⟨by simp [wantP, hn], ?_⟩
    simp [execOp, hn, hc, go_sem]
    exact rfl
  apply go_val pre_kept
  · rintro ρ wr ⟨hg, hn, hc, hf, hgl⟩
    simp only [Need, fat, List.nil_append, List.cons_append, List.getD_cons_zero, List.getD_cons_succ, Fct.hold, and_true] at hn
    refine ⟨by simp [wantP, hn], ?_⟩
    simp [execOp, hn, hc, go_sem]
    exact rfl
  apply go_val (x := .bool true) pre_kept
  · rintro ρ wr ⟨hg, hn, hc, hf, hgl⟩
    simp only [Need, fat, List.nil_append, List.cons_append, List.getD_cons_zero, List.getD_cons_succ, Fct.hold, and_true] at hn
    refine ⟨by simp [wantP, hn], ?_⟩
    simp [execOp, hn, hc, go_sem]
  apply go_val (x := .bool true) pre_kept
  · rintro ρ wr ⟨hg, hn, hc, hf, hgl⟩
    simp only [Need, fat, List.nil_append, List.cons_append, List.getD_cons_zero, List.getD_cons_succ, Fct.hold, and_true] at hn
    refine ⟨by simp [wantP, hn], ?_⟩
    simp [execOp, hn, hc, go_sem]
  apply go_val pre_kept
  · rintro ρ wr ⟨hg, hn, hc, hf, hgl⟩
    simp only [Need, fat, List.nil_append, List.cons_append, List.getD_cons_zero, List.getD_cons_succ, Fct.hold, and_true] at hn
    refine ⟨by simp [wantP, hn], ?_⟩
    simp [execOp, hn, hc, go_sem]
    exact rfl
  apply go_val pre_kept
  · rintro ρ wr ⟨hg, hn, hc, hf, hgl⟩
    simp only [Need, fat, List.nil_append, List.cons_append, List.getD_cons_zero, List.getD_cons_succ, Fct.hold, and_true] at hn
    refine ⟨by simp [wantP, hn], ?_⟩
    simp [execOp, hn, hc, go_sem]
    exact rfl
  apply go_val pre_kept
  · rintro ρ wr ⟨hg, hn, hc, hf, hgl⟩
    simp only [Need, fat, List.nil_append, List.cons_append, List.getD_cons_zero, List.getD_cons_succ, Fct.hold, and_true] at hn
    refine ⟨by simp [wantP, hn], ?_⟩
    simp [execOp, hn, hc, go_sem]
    exact rfl
  apply go_val pre_kept
  · rintro ρ wr ⟨hg, hn, hc, hf, hgl⟩
    simp only [Need, fat, List.nil_append, List.cons_append, List.getD_cons_zero, List.getD_cons_succ, Fct.hold, and_true] at hn
    have hl := And.intro (hg.cell a0) (hg.cell a1)
    refine ⟨by simp [wantP, hn], ?_⟩
    simp [execOp, hn, hc, hl, go_sem]
    exact rfl
  apply go_val pre_kept
  · rintro ρ wr ⟨hg, hn, hc, hf, hgl⟩
    simp only [Need, fat, List.nil_append, List.cons_append, List.getD_cons_zero, List.getD_cons_succ, Fct.hold, and_true] at hn
    refine ⟨by simp [wantP, hn], ?_⟩
    simp [execOp, hn, hc, go_sem]
    exact rfl
  apply go_val pre_kept
  · rintro ρ wr ⟨hg, hn, hc, hf, hgl⟩
    simp only [Need, fat, List.nil_append, List.cons_append, List.getD_cons_zero, List.getD_cons_succ, Fct.hold, and_true] at hn
    refine ⟨by simp [wantP, hn], ?_⟩
    simp [execOp, hn, hc, go_sem]
    exact rfl
  apply go_val pre_kept
  · rintro ρ wr ⟨hg, hn, hc, hf, hgl⟩
    simp only [Need, fat, List.nil_append, List.cons_append, List.getD_cons_zero, List.getD_cons_succ, Fct.hold, and_true] at hn
    refine ⟨by simp [wantP, hn], ?_⟩
    simp [execOp, hn, hc, go_sem]
    exact rfl
  apply go_val pre_kept
  · rintro ρ wr ⟨hg, hn, hc, hf, hgl⟩
    simp only [Need, fat, List.nil_append, List.cons_append, List.getD_cons_zero, List.getD_cons_succ, Fct.hold, and_true] at hn
    have hl := And.intro (hg.cell a0) (hg.cell a1)
    refine ⟨by simp [wantP, hn], ?_⟩
    simp [execOp, hn, hc, hl, go_sem]
    exact rfl
  apply go_val (x := .bool true) pre_kept
  · rintro ρ wr ⟨hg, hn, hc, hf, hgl⟩
    simp only [Need, fat, List.nil_append, List.cons_append, List.getD_cons_zero, List.getD_cons_succ, Fct.hold, and_true] at hn
    refine ⟨by simp [wantP, hn], ?_⟩
    simp [execOp, hn, hc, go_sem]
  apply go_val (x := .bool true) pre_kept
  · rintro ρ wr ⟨hg, hn, hc, hf, hgl⟩
    simp only [Need, fat, List.nil_append, List.cons_append, List.getD_cons_zero, List.getD_cons_succ, Fct.hold, and_true] at hn
    refine ⟨by simp [wantP, hn], ?_⟩
    simp [execOp, hn, hc, go_sem]
  intro w2 hk2
  simp only [Post, List.nil_append, List.cons_append, Act.put, List.setIfInBounds_toArray, List.set_cons_zero, List.set_cons_succ]
  rename_i hK
  refine hK _ _ ?_
  clear hK
  have kk := (Kept.drew (Kept.refl _)).trans hk2
  replace HK := Lib.hid (HK.out.trans kk)
  replace a0 := kk.cell a0
  replace a1 := kk.cell a1
  clear hk2 kk
  go_wp2_with fail
  refine (guard_any c w2).mono ?_
  rintro e w3 ⟨rfl, hk⟩
  replace HK := Lib.hid (HK.out.trans hk)
  clear hk a0 a1
  go_wp2_with fail
  go_ret
  exact ⟨rfl, HK.out⟩
theorem kind_set (k : Nat) (x0 x1 x2 x3 sl : Value) (w : World) (hb : w.heap[k]? = some (.cells #[.int .i64 1, x0, x1, x2, x3, sl] 27 (0, 0))) : Calls Try.prog 31 #[.pointer (some ⟨k, 0, none⟩)] w fun e w' => e = .returned (.int .i64 1) ∧ w = w' := by
  obtain ⟨⟨c0, -⟩, -⟩ := box6 hb
  clear hb
  go_enter Try.func31, Try.ntmps31
  go_wp2
  go_ret
  exact ⟨rfl, rfl⟩
end Go.Proofs.Ytpnmcinbohdmhaa
