/-
  What the small functions of posit's walk say. Conditions: none.
-/
import Derived.Test.YtdbffbdpofodmaaRpos
set_option linter.unusedSimpArgs false
namespace Go.Proofs.Ytdbffbdpofodmaa
open Go Go.RowKit Kit
/-- posit's walk in memory. -/
def WO (p0 : Value) (pn : Bool) (p2 p3 p4 : Value) (k : Nat) (vn vs vt : Value) : Obj := .cells #[p0, .bool pn, p2, p3, p4, .int .i64 k, vn, vs, vt] 82
theorem WO.lay {w : World} {b k : Nat} {p0 p2 p3 p4 vn vs vt : Value} {pn : Bool} (hk : w.heap[b]? = some (WO p0 pn p2 p3 p4 k vn vs vt)) :
    (w.cell? ⟨b, 0, none⟩ = some p0 ∧ w.cell? ⟨b, 1, none⟩ = some (.bool pn) ∧ w.cell? ⟨b, 2, none⟩ = some p2 ∧ w.cell? ⟨b, 3, none⟩ = some p3 ∧ w.cell? ⟨b, 4, none⟩ = some p4 ∧ w.cell? ⟨b, 5, none⟩ = some (.int .i64 k) ∧ w.cell? ⟨b, 6, none⟩ = some vn ∧ w.cell? ⟨b, 7, none⟩ = some vs ∧ w.cell? ⟨b, 8, none⟩ = some vt) ∧ ∀ i, w.frozen? ⟨b, i, none⟩ = false := by
  refine ⟨⟨?_, ?_, ?_, ?_, ?_, ?_, ?_, ?_, ?_⟩, fun i => blk_free hk _⟩
  iterate 9 rw [blk_cell hk]; rfl
set_option maxHeartbeats 2000000 in
theorem isPlace_any (b i : Nat) (A : Option Addr) (n c k : Nat) (p0 p2 p3 p4 vn vs : Value) (pn : Bool) (w : World) (h : w.heap[b]? = some (WO p0 pn p2 p3 p4 k vn vs (.slice A n c))) : Calls Try.prog 48 #[ptr b, .int .i64 i] w fun e w' => e = .returned (.bool (decide (i < n))) ∧ w = w' := by
  obtain ⟨⟨-, -, -, -, -, -, -, -, c8⟩, -⟩ := WO.lay h
  have hi0 : (0 : Int) ≤ i := by omega
  clear h
  unfold ptr
  by_cases hlt : i < n
  · have hlti : (i : Int) < n := by omega
    rw [decide_eq_true hlt]
    go_enter Try.func48, Try.ntmps48
    go_wp2
    go_ret
    exact ⟨rfl, rfl⟩
  · have hlti : ¬ (i : Int) < n := by omega
    rw [decide_eq_false hlt]
    go_enter Try.func48, Try.ntmps48
    go_wp2
    go_ret
    exact ⟨rfl, rfl⟩
set_option maxRecDepth 100000 in
set_option maxHeartbeats 4000000 in
theorem isAt_any (b i : Nat) (S : Nat → Prop) (A : Option Addr) (n c k : Nat) (T : List Nat) (p0 p2 p3 p4 vn vs : Value) (pn : Bool) (w : World) (h : w.heap[b]? = some (WO p0 pn p2 p3 p4 k vn vs (.slice A n c))) (ht : Ls S w (.slice A n c) (ints T)) : Calls Try.prog 31 #[ptr b, .int .i64 i] w fun e w' => e = .returned (.bool (decide (T[i]? = some k))) ∧ Kept w w' := by
  have hn : n = T.length := by
    obtain ⟨A', cap', e⟩ := ht.form
    injection e with e1 e2 e3
    rw [e2, ints_len]
  have HB := Lib.hid h
  obtain ⟨⟨-, -, -, -, -, c5, -, -, c8⟩, -⟩ := WO.lay h
  have hi0 : (0 : Int) ≤ i := by omega
  by_cases hlt : i < n
  · obtain ⟨t, hT⟩ : ∃ t, T[i]? = some t := ⟨_, List.getElem?_eq_getElem (by omega)⟩
    obtain ⟨q, o, rfl, -, hc⟩ := ht.at (ints_get hT)
    have CT := Lib.hid hc
    have hlti : (i : Int) < n := by omega
    have e : decide (T[i]? = some k) = decide (t = k) := by rw [hT]; simp
    have heq : ((t : Int) == (k : Int)) = decide (t = k) := by
      by_cases h : t = k
      · subst h; simp
      · have : ¬ (t : Int) = k := by omega
        simp [h, this]
    rw [e]
    clear h ht hn hT hc e
    unfold ptr
    go_enter Try.func31, Try.ntmps31
    go_wp2_with fail
    refine wp_region_go Kept pre_kept [([(0, none)], none), ([(1, none)], none), ([(5, some 0), (6, some 1)], none), ([(7, some 2)], none), ([(0, none), (8, some 3)], some (8, true)), ([(9, some 4), (8, some 3)], some (8, true)), ([(10, some 5), (8, some 3)], some (8, true)), ([(11, some 6), (8, some 3)], some (8, true)), ([(1, none), (8, some 3)], some (8, true)), ([(12, some 7), (13, some 8), (8, some 3)], some (8, true)), ([(14, some 9), (8, some 3)], some (8, true)), ([(0, none), (8, some 3)], some (8, true)), ([(16, some 11), (8, some 3)], some (8, true)), ([(17, some 12), (8, some 3)], some (8, true)), ([(18, some 13), (8, some 3)], some (8, true)), ([(15, some 10), (19, some 14), (8, some 3)], some (8, true)), ([(8, some 3), (20, some 15)], none), ([(21, some 16)], none)] (by kernel_rfl) 22 rfl (by kernel_rfl) (by kernel_rfl) ?_
    apply go_val pre_kept
    · rintro ρ wr ⟨hg, hn, hc, hf, hgl⟩
      simp only [Need, fat, List.nil_append, List.cons_append, List.getD_cons_zero, List.getD_cons_succ, Fct.hold, and_true] at hn
      refine ⟨by simp [wantP, hn], ?_⟩
      simp [execOp, hn, hc, go_sem]
      exact rfl
    apply go_val pre_kept
    · rintro ρ wr ⟨hg, hn, hc, hf, hgl⟩
      simp only [Need, fat, List.nil_append, List.cons_append, List.getD_cons_zero, List.getD_cons_succ, Fct.hold, and_true] at hn
      refine ⟨by simp [wantP, hn], ?_⟩
      simp [execOp, hn, hc, go_sem]
      exact rfl
    apply go_callv (x := .bool true)
    · rintro ρ wr ⟨hg, hn, hc, hf, hgl⟩
      simp only [Need, fat, List.nil_append, List.cons_append, List.getD_cons_zero, List.getD_cons_succ, Fct.hold, and_true] at hn
      refine ⟨by simp [wantP, hn], _, _, by simp [execOp, hn, hf, hc, resolve, invoke, go_sem]; exact ⟨rfl, rfl⟩, ?_⟩
      exact (isPlace_any b i (some ⟨q, o, none⟩) n c k p0 p2 p3 p4 vn vs pn _ (((Kept.drew (Kept.refl _)).trans hg).blk HB.out)).mono fun e w' ⟨h1, h2⟩ => ⟨_, h1, by rw [decide_eq_true hlt], by rw [h2]; exact Kept.refl _⟩
    apply go_val pre_kept
    · rintro ρ wr ⟨hg, hn, hc, hf, hgl⟩
      simp only [Need, fat, List.nil_append, List.cons_append, List.getD_cons_zero, List.getD_cons_succ, Fct.hold, and_true] at hn
      refine ⟨by simp [wantP, hn], ?_⟩
      simp [execOp, hn, hc, go_sem]
      exact rfl
    apply go_val pre_kept
    · rintro ρ wr ⟨hg, hn, hc, hf, hgl⟩
      simp only [Need, fat, List.nil_append, List.cons_append, List.getD_cons_zero, List.getD_cons_succ, Fct.hold, and_true] at hn
      refine ⟨by simp [wantP, hn], ?_⟩
      simp [execOp, hn, hc, go_sem]
      exact rfl
    apply go_val pre_kept
    · rintro ρ wr ⟨hg, hn, hc, hf, hgl⟩
      simp only [Need, fat, List.nil_append, List.cons_append, List.getD_cons_zero, List.getD_cons_succ, Fct.hold, and_true] at hn
      refine ⟨by simp [wantP, hn], ?_⟩
      simp [execOp, hn, hc, go_sem]
      exact rfl
    apply go_val pre_kept
    · rintro ρ wr ⟨hg, hn, hc, hf, hgl⟩
      simp only [Need, fat, List.nil_append, List.cons_append, List.getD_cons_zero, List.getD_cons_succ, Fct.hold, and_true] at hn
      refine ⟨by simp [wantP, hn], ?_⟩
      simp [execOp, hn, hc, go_sem]
      exact rfl
    apply go_val pre_kept
    · rintro ρ wr ⟨hg, hn, hc, hf, hgl⟩
      simp only [Need, fat, List.nil_append, List.cons_append, List.getD_cons_zero, List.getD_cons_succ, Fct.hold, and_true] at hn
      have hl := And.intro (hg.cell c5) (hg.cell c8)
      refine ⟨by simp [wantP, hn], ?_⟩
      simp [execOp, hn, hc, hl, go_sem]
      exact rfl
    apply go_val pre_kept
    · rintro ρ wr ⟨hg, hn, hc, hf, hgl⟩
      simp only [Need, fat, List.nil_append, List.cons_append, List.getD_cons_zero, List.getD_cons_succ, Fct.hold, and_true] at hn
      refine ⟨by simp [wantP, hn], ?_⟩
      simp [execOp, hn, hc, go_sem]
      exact rfl
    apply go_val (x := .pointer (some ⟨q, o + i, none⟩)) pre_kept
    · rintro ρ wr ⟨hg, hn, hc, hf, hgl⟩
      simp only [Need, fat, List.nil_append, List.cons_append, List.getD_cons_zero, List.getD_cons_succ, Fct.hold, and_true] at hn
      refine ⟨by simp [wantP, hn], ?_⟩
      simp [execOp, hn, hc, go_sem, hlti, hlt, hi0]
    apply go_val (x := .int .i64 (t : Int)) pre_kept
    · rintro ρ wr ⟨hg, hn, hc, hf, hgl⟩
      simp only [Need, fat, List.nil_append, List.cons_append, List.getD_cons_zero, List.getD_cons_succ, Fct.hold, and_true] at hn
      refine ⟨by simp [wantP, hn], ?_⟩
      simp [execOp, hn, hc, go_sem, hg.cell CT.out]
    apply go_val pre_kept
    · rintro ρ wr ⟨hg, hn, hc, hf, hgl⟩
      simp only [Need, fat, List.nil_append, List.cons_append, List.getD_cons_zero, List.getD_cons_succ, Fct.hold, and_true] at hn
      refine ⟨by simp [wantP, hn], ?_⟩
      simp [execOp, hn, hc, go_sem]
      exact rfl
    apply go_val pre_kept
    · rintro ρ wr ⟨hg, hn, hc, hf, hgl⟩
      simp only [Need, fat, List.nil_append, List.cons_append, List.getD_cons_zero, List.getD_cons_succ, Fct.hold, and_true] at hn
      refine ⟨by simp [wantP, hn], ?_⟩
      simp [execOp, hn, hc, go_sem]
      exact rfl
    apply go_val pre_kept
    · rintro ρ wr ⟨hg, hn, hc, hf, hgl⟩
      simp only [Need, fat, List.nil_append, List.cons_append, List.getD_cons_zero, List.getD_cons_succ, Fct.hold, and_true] at hn
      refine ⟨by simp [wantP, hn], ?_⟩
      simp [execOp, hn, hc, go_sem]
      exact rfl
    apply go_val pre_kept
    · rintro ρ wr ⟨hg, hn, hc, hf, hgl⟩
      simp only [Need, fat, List.nil_append, List.cons_append, List.getD_cons_zero, List.getD_cons_succ, Fct.hold, and_true] at hn
      have hl := And.intro (hg.cell c5) (hg.cell c8)
      refine ⟨by simp [wantP, hn], ?_⟩
      simp [execOp, hn, hc, hl, go_sem]
      exact rfl
    apply go_val (x := .bool (decide (t = k))) pre_kept
    · rintro ρ wr ⟨hg, hn, hc, hf, hgl⟩
      simp only [Need, fat, List.nil_append, List.cons_append, List.getD_cons_zero, List.getD_cons_succ, Fct.hold, and_true] at hn
      refine ⟨by simp [wantP, hn], ?_⟩
      simp [execOp, hn, hc, go_sem, heq]
    apply go_val (x := .bool (decide (t = k))) pre_kept
    · rintro ρ wr ⟨hg, hn, hc, hf, hgl⟩
      simp only [Need, fat, List.nil_append, List.cons_append, List.getD_cons_zero, List.getD_cons_succ, Fct.hold, and_true] at hn
      refine ⟨by simp [wantP, hn], ?_⟩
      simp [execOp, hn, hc, go_sem]
    apply go_val pre_kept
    · rintro ρ wr ⟨hg, hn, hc, hf, hgl⟩
      simp only [Need, fat, List.nil_append, List.cons_append, List.getD_cons_zero, List.getD_cons_succ, Fct.hold, and_true] at hn
      refine ⟨by simp [wantP, hn], ?_⟩
      simp [execOp, hn, hc, go_sem]
      exact rfl
    intro w2 hk2
    simp only [Post, List.nil_append, List.cons_append, Act.put, List.setIfInBounds_toArray, List.set_cons_zero, List.set_cons_succ]
    have HK := Lib.hid hk2
    clear hk2 c5 c8
    rename_i hK
    refine hK _ _ ?_
    clear hK
    go_wp2_with fail
    go_ret
    exact ⟨rfl, (Kept.drew (Kept.refl _)).trans HK.out⟩
  · have e : decide (T[i]? = some k) = false := by rw [List.getElem?_eq_none (by omega)]; simp
    rw [e]
    clear h ht hn e
    unfold ptr
    go_enter Try.func31, Try.ntmps31
    go_wp2_with fail
    refine wp_region_go Kept pre_kept [([(0, none)], none), ([(1, none)], none), ([(5, some 0), (6, some 1)], none), ([(7, some 2)], none), ([(0, none), (8, some 3)], some (8, true)), ([(9, some 4), (8, some 3)], some (8, true)), ([(10, some 5), (8, some 3)], some (8, true)), ([(11, some 6), (8, some 3)], some (8, true)), ([(1, none), (8, some 3)], some (8, true)), ([(12, some 7), (13, some 8), (8, some 3)], some (8, true)), ([(14, some 9), (8, some 3)], some (8, true)), ([(0, none), (8, some 3)], some (8, true)), ([(16, some 11), (8, some 3)], some (8, true)), ([(17, some 12), (8, some 3)], some (8, true)), ([(18, some 13), (8, some 3)], some (8, true)), ([(15, some 10), (19, some 14), (8, some 3)], some (8, true)), ([(8, some 3), (20, some 15)], none), ([(21, some 16)], none)] (by kernel_rfl) 22 rfl (by kernel_rfl) (by kernel_rfl) ?_
    apply go_val pre_kept
    · rintro ρ wr ⟨hg, hn, hc, hf, hgl⟩
      simp only [Need, fat, List.nil_append, List.cons_append, List.getD_cons_zero, List.getD_cons_succ, Fct.hold, and_true] at hn
      refine ⟨by simp [wantP, hn], ?_⟩
      simp [execOp, hn, hc, go_sem]
      exact rfl
    apply go_val pre_kept
    · rintro ρ wr ⟨hg, hn, hc, hf, hgl⟩
      simp only [Need, fat, List.nil_append, List.cons_append, List.getD_cons_zero, List.getD_cons_succ, Fct.hold, and_true] at hn
      refine ⟨by simp [wantP, hn], ?_⟩
      simp [execOp, hn, hc, go_sem]
      exact rfl
    apply go_callv (x := .bool false)
    · rintro ρ wr ⟨hg, hn, hc, hf, hgl⟩
      simp only [Need, fat, List.nil_append, List.cons_append, List.getD_cons_zero, List.getD_cons_succ, Fct.hold, and_true] at hn
      refine ⟨by simp [wantP, hn], _, _, by simp [execOp, hn, hf, hc, resolve, invoke, go_sem]; exact ⟨rfl, rfl⟩, ?_⟩
      exact (isPlace_any b i A n c k p0 p2 p3 p4 vn vs pn _ (((Kept.drew (Kept.refl _)).trans hg).blk HB.out)).mono fun e w' ⟨h1, h2⟩ => ⟨_, h1, by rw [decide_eq_false hlt], by rw [h2]; exact Kept.refl _⟩
    apply go_val pre_kept
    · rintro ρ wr ⟨hg, hn, hc, hf, hgl⟩
      simp only [Need, fat, List.nil_append, List.cons_append, List.getD_cons_zero, List.getD_cons_succ, Fct.hold, and_true] at hn
      refine ⟨by simp [wantP, hn], ?_⟩
      simp [execOp, hn, hc, go_sem]
      exact rfl
    refine go_not pre_kept ?_ ?_
    · rintro ρ wr ⟨hg, hn, hc, hf, hgl⟩
      simp only [Need, fat, List.nil_append, List.cons_append, List.getD_cons_zero, List.getD_cons_succ, Fct.hold, and_true] at hn
      simp [wantP, hn]
    refine go_not pre_kept ?_ ?_
    · rintro ρ wr ⟨hg, hn, hc, hf, hgl⟩
      simp only [Need, fat, List.nil_append, List.cons_append, List.getD_cons_zero, List.getD_cons_succ, Fct.hold, and_true] at hn
      simp [wantP, hn]
    refine go_not pre_kept ?_ ?_
    · rintro ρ wr ⟨hg, hn, hc, hf, hgl⟩
      simp only [Need, fat, List.nil_append, List.cons_append, List.getD_cons_zero, List.getD_cons_succ, Fct.hold, and_true] at hn
      simp [wantP, hn]
    refine go_not pre_kept ?_ ?_
    · rintro ρ wr ⟨hg, hn, hc, hf, hgl⟩
      simp only [Need, fat, List.nil_append, List.cons_append, List.getD_cons_zero, List.getD_cons_succ, Fct.hold, and_true] at hn
      simp [wantP, hn]
    refine go_not pre_kept ?_ ?_
    · rintro ρ wr ⟨hg, hn, hc, hf, hgl⟩
      simp only [Need, fat, List.nil_append, List.cons_append, List.getD_cons_zero, List.getD_cons_succ, Fct.hold, and_true] at hn
      simp [wantP, hn]
    refine go_not pre_kept ?_ ?_
    · rintro ρ wr ⟨hg, hn, hc, hf, hgl⟩
      simp only [Need, fat, List.nil_append, List.cons_append, List.getD_cons_zero, List.getD_cons_succ, Fct.hold, and_true] at hn
      simp [wantP, hn]
    refine go_not pre_kept ?_ ?_
    · rintro ρ wr ⟨hg, hn, hc, hf, hgl⟩
      simp only [Need, fat, List.nil_append, List.cons_append, List.getD_cons_zero, List.getD_cons_succ, Fct.hold, and_true] at hn
      simp [wantP, hn]
    refine go_not pre_kept ?_ ?_
    · rintro ρ wr ⟨hg, hn, hc, hf, hgl⟩
      simp only [Need, fat, List.nil_append, List.cons_append, List.getD_cons_zero, List.getD_cons_succ, Fct.hold, and_true] at hn
      simp [wantP, hn]
    refine go_not pre_kept ?_ ?_
    · rintro ρ wr ⟨hg, hn, hc, hf, hgl⟩
      simp only [Need, fat, List.nil_append, List.cons_append, List.getD_cons_zero, List.getD_cons_succ, Fct.hold, and_true] at hn
      simp [wantP, hn]
    refine go_not pre_kept ?_ ?_
    · rintro ρ wr ⟨hg, hn, hc, hf, hgl⟩
      simp only [Need, fat, List.nil_append, List.cons_append, List.getD_cons_zero, List.getD_cons_succ, Fct.hold, and_true] at hn
      simp [wantP, hn]
    refine go_not pre_kept ?_ ?_
    · rintro ρ wr ⟨hg, hn, hc, hf, hgl⟩
      simp only [Need, fat, List.nil_append, List.cons_append, List.getD_cons_zero, List.getD_cons_succ, Fct.hold, and_true] at hn
      simp [wantP, hn]
    refine go_not pre_kept ?_ ?_
    · rintro ρ wr ⟨hg, hn, hc, hf, hgl⟩
      simp only [Need, fat, List.nil_append, List.cons_append, List.getD_cons_zero, List.getD_cons_succ, Fct.hold, and_true] at hn
      simp [wantP, hn]
    apply go_val (x := .bool false) pre_kept
    · rintro ρ wr ⟨hg, hn, hc, hf, hgl⟩
      simp only [Need, fat, List.nil_append, List.cons_append, List.getD_cons_zero, List.getD_cons_succ, Fct.hold, and_true] at hn
      refine ⟨by simp [wantP, hn], ?_⟩
      simp [execOp, hn, hc, go_sem]
    apply go_val pre_kept
    · rintro ρ wr ⟨hg, hn, hc, hf, hgl⟩
      simp only [Need, fat, List.nil_append, List.cons_append, List.getD_cons_zero, List.getD_cons_succ, Fct.hold, and_true] at hn
      refine ⟨by simp [wantP, hn], ?_⟩
      simp [execOp, hn, hc, go_sem]
      exact rfl
    intro w2 hk2
    simp only [Post, List.nil_append, List.cons_append, Act.put, List.setIfInBounds_toArray, List.set_cons_zero, List.set_cons_succ]
    have HK := Lib.hid hk2
    clear hk2 c5 c8
    rename_i hK
    refine hK _ _ ?_
    clear hK
    go_wp2_with fail
    go_ret
    exact ⟨rfl, (Kept.drew (Kept.refl _)).trans HK.out⟩
end Go.Proofs.Ytdbffbdpofodmaa
