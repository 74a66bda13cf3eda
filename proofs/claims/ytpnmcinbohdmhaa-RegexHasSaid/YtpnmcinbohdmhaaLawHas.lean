/-
  For every set and every byte the law RegexHas returns true. Conditions: none.
-/
import Derived.Test.YtpnmcinbohdmhaaAlive
set_option linter.unusedSimpArgs false
namespace Go.Proofs.Ytpnmcinbohdmhaa
open Go Go.RowKit Kit
theorem set_of (a b c d : Nat) (ha : a < 18446744073709551616) (hb : b < 18446744073709551616) (hc : c < 18446744073709551616) (hd : d < 18446744073709551616) : ∃ X : BitVec 256, wdN X 0 = a ∧ wdN X 1 = b ∧ wdN X 2 = c ∧ wdN X 3 = d := by
  refine ⟨BitVec.ofNat 256 (a + b * 18446744073709551616 + c * 340282366920938463463374607431768211456 + d * 6277101735386680763835789423207666416102355444464034512896), ?_⟩
  have e : (BitVec.ofNat 256 (a + b * 18446744073709551616 + c * 340282366920938463463374607431768211456 + d * 6277101735386680763835789423207666416102355444464034512896)).toNat = a + b * 18446744073709551616 + c * 340282366920938463463374607431768211456 + d * 6277101735386680763835789423207666416102355444464034512896 := by
    rw [BitVec.toNat_ofNat]
    apply Nat.mod_eq_of_lt
    omega
  unfold wdN
  simp only [BitVec.toNat_ushiftRight, e, Nat.shiftRight_eq_div_pow]
  refine ⟨?_, ?_, ?_, ?_⟩
  · simp; omega
  · simp; omega
  · simp; omega
  · simp; omega
set_option maxHeartbeats 2000000 in
theorem lawHas_any (X : BitVec 256) (x : Nat) (hx : x ≤ 255) (w : World) : Calls Try.prog 4 #[.int .u64 (wdN X 0), .int .u64 (wdN X 1), .int .u64 (wdN X 2), .int .u64 (wdN X 3), .int .u8 x] w fun e w' => e = .returned (.bool true) ∧ Kept w w' := by
  obtain ⟨b, hb⟩ : ∃ b, X.getLsbD x = b := ⟨_, rfl⟩
  have HB := Lib.hid hb
  clear hb
  go_enter Try.func4, Try.ntmps4
  go_wp2_with fail
  refine (alive_any w).mono ?_
  rintro e w1 ⟨rfl, hk⟩
  have HK := Lib.hid hk
  clear hk
  go_wp2_with fail
  obtain ⟨h1, hk2⟩ := alloc1 w1 (.cells #[.int .u64 (wdN X 0), .int .u64 (wdN X 1), .int .u64 (wdN X 2), .int .u64 (wdN X 3)] 24)
  generalize w1.alloc _ = w3 at *
  obtain ⟨⟨c0, c1, c2, c3⟩, -⟩ := box4 h1
  replace HK := Lib.hid (HK.out.trans hk2)
  clear h1 hk2
  refine wp_region_go Kept pre_kept [([(11, none)], none), ([(19, some 0)], none), ([(12, none), (20, some 1)], some (20, true)), ([(4, none), (20, some 1)], some (20, true)), ([(21, some 2), (22, some 3), (20, some 1)], some (20, true)), ([(12, none), (20, some 1)], some (20, true)), ([(4, none), (20, some 1)], some (20, true)), ([(24, some 5), (25, some 6), (20, some 1)], some (20, true)), ([(23, some 4), (26, some 7), (20, some 1)], some (20, true)), ([(20, some 1), (27, some 8)], none), ([(28, some 9)], none)] (by kernel_rfl) 29 rfl (by kernel_rfl) (by kernel_rfl) ?_
  apply go_val pre_kept
  · rintro ρ wr ⟨hg, hn, hc, hf, hgl⟩
    simp only [Need, fat, List.nil_append, List.cons_append, List.getD_cons_zero, List.getD_cons_succ, Fct.hold, and_true] at hn
    refine ⟨by simp [wantP, hn], ?_⟩
    simp [execOp, hn, hc, go_sem]
    exact rfl
  apply go_val pre_kept
  · rintro ρ wr ⟨hg, hn, hc, hf, hgl⟩
    simp only [Need, fat, List.nil_append, List.cons_append, List.getD_cons_zero, List.getD_cons_succ, Fct.hold, and_true] at hn
    refine ⟨by simp [wantP, hn], ?_⟩
    simp [execOp, hn, hc, go_sem]
    exact rfl
  apply go_val pre_kept
  · rintro ρ wr ⟨hg, hn, hc, hf, hgl⟩
    simp only [Need, fat, List.nil_append, List.cons_append, List.getD_cons_zero, List.getD_cons_succ, Fct.hold, and_true] at hn
    have hl := And.intro (hg.cell c0) (And.intro (hg.cell c1) (And.intro (hg.cell c2) (hg.cell c3)))
    refine ⟨by simp [wantP, hn], ?_⟩
    simp [execOp, hn, hc, hl, go_sem]
    exact rfl
  apply go_val pre_kept
  · rintro ρ wr ⟨hg, hn, hc, hf, hgl⟩
    simp only [Need, fat, List.nil_append, List.cons_append, List.getD_cons_zero, List.getD_cons_succ, Fct.hold, and_true] at hn
    refine ⟨by simp [wantP, hn], ?_⟩
    simp [execOp, hn, hc, go_sem]
    exact rfl
  apply go_callv (x := .bool b)
  · rintro ρ wr ⟨hg, hn, hc, hf, hgl⟩
    simp only [Need, fat, List.nil_append, List.cons_append, List.getD_cons_zero, List.getD_cons_succ, Fct.hold, and_true] at hn
    refine ⟨by simp [wantP, hn], _, _, by simp [execOp, hn, hf, hc, resolve, invoke, go_sem]; exact ⟨rfl, rfl⟩, ?_⟩
    exact (has4 X x hx _).mono fun e w' ⟨h1, h2⟩ => ⟨_, h1, by rw [HB.out], h2⟩
  apply go_val pre_kept
  · rintro ρ wr ⟨hg, hn, hc, hf, hgl⟩
    simp only [Need, fat, List.nil_append, List.cons_append, List.getD_cons_zero, List.getD_cons_succ, Fct.hold, and_true] at hn
    have hl := And.intro (hg.cell c0) (And.intro (hg.cell c1) (And.intro (hg.cell c2) (hg.cell c3)))
    refine ⟨by simp [wantP, hn], ?_⟩
    simp [execOp, hn, hc, hl, go_sem]
    exact rfl
  apply go_val pre_kept
  · rintro ρ wr ⟨hg, hn, hc, hf, hgl⟩
    simp only [Need, fat, List.nil_append, List.cons_append, List.getD_cons_zero, List.getD_cons_succ, Fct.hold, and_true] at hn
    refine ⟨by simp [wantP, hn], ?_⟩
    simp [execOp, hn, hc, go_sem]
    exact rfl
  apply go_callv (x := .bool b)
  · rintro ρ wr ⟨hg, hn, hc, hf, hgl⟩
    simp only [Need, fat, List.nil_append, List.cons_append, List.getD_cons_zero, List.getD_cons_succ, Fct.hold, and_true] at hn
    refine ⟨by simp [wantP, hn], _, _, by simp [execOp, hn, hf, hc, resolve, invoke, go_sem]; exact ⟨rfl, rfl⟩, ?_⟩
    exact (RHas_any X x hx _).mono fun e w' ⟨h1, h2⟩ => ⟨_, h1, by rw [HB.out], h2⟩
  apply go_val (x := .bool true) pre_kept
  · rintro ρ wr ⟨hg, hn, hc, hf, hgl⟩
    simp only [Need, fat, List.nil_append, List.cons_append, List.getD_cons_zero, List.getD_cons_succ, Fct.hold, and_true] at hn
    refine ⟨by simp [wantP, hn], ?_⟩
    simp [execOp, hn, hc, go_sem]
  apply go_val (x := .bool true) pre_kept
  · rintro ρ wr ⟨hg, hn, hc, hf, hgl⟩
    simp only [Need, fat, List.nil_append, List.cons_append, List.getD_cons_zero, List.getD_cons_succ, Fct.hold, and_true] at hn
    refine ⟨by simp [wantP, hn], ?_⟩
    simp [execOp, hn, hc, go_sem]
  apply go_val pre_kept
  · rintro ρ wr ⟨hg, hn, hc, hf, hgl⟩
    simp only [Need, fat, List.nil_append, List.cons_append, List.getD_cons_zero, List.getD_cons_succ, Fct.hold, and_true] at hn
    refine ⟨by simp [wantP, hn], ?_⟩
    simp [execOp, hn, hc, go_sem]
    exact rfl
  intro w2 hk2
  simp only [Post, List.nil_append, List.cons_append, Act.put, List.setIfInBounds_toArray, List.set_cons_zero, List.set_cons_succ]
  rename_i hK
  refine hK _ _ ?_
  clear hK
  have HF := Lib.hid ((HK.out.trans (Kept.drew (Kept.refl _))).trans hk2)
  clear hk2
  go_wp2_with fail
  go_ret
  exact ⟨rfl, HF.out⟩
theorem u64_bd {z : Int} (h : (Lit.int .u64 z).wf = true) : ∃ n : Nat, z = n ∧ n < 18446744073709551616 := by
  have : 0 ≤ z ∧ z ≤ 18446744073709551615 := by simpa [Lit.wf, IntKind.min, IntKind.max, IntKind.signed, IntKind.bits] using h
  exact ⟨z.toNat, by omega, by omega⟩
theorem u8_bd {z : Int} (h : (Lit.int .u8 z).wf = true) : ∃ n : Nat, z = n ∧ n ≤ 255 := by
  have : 0 ≤ z ∧ z ≤ 255 := by simpa [Lit.wf, IntKind.min, IntKind.max, IntKind.signed, IntKind.bits] using h
  exact ⟨z.toNat, by omega, by omega⟩
theorem has_in (z0 z1 z2 z3 z4 : Int) (h0 : (Lit.int .u64 z0).wf = true) (h1 : (Lit.int .u64 z1).wf = true) (h2 : (Lit.int .u64 z2).wf = true) (h3 : (Lit.int .u64 z3).wf = true) (h4 : (Lit.int .u8 z4).wf = true) (w : World) :
    Calls Try.prog 4 #[.int .u64 z0, .int .u64 z1, .int .u64 z2, .int .u64 z3, .int .u8 z4] w fun e w' => e = .returned (.bool true) ∧ Kept w w' := by
  obtain ⟨a, rfl, ha⟩ := u64_bd h0
  obtain ⟨b, rfl, hb⟩ := u64_bd h1
  obtain ⟨c, rfl, hc⟩ := u64_bd h2
  obtain ⟨d, rfl, hd⟩ := u64_bd h3
  obtain ⟨x, rfl, hx⟩ := u8_bd h4
  obtain ⟨X, rfl, rfl, rfl, rfl⟩ := set_of a b c d ha hb hc hd
  exact lawHas_any X x hx w
end Go.Proofs.Ytpnmcinbohdmhaa
