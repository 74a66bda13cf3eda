/-
  What the document's own SameRe says of two values that read as one pattern. Conditions: none.
-/
import Derived.Test.YtpnmcinbohdmhaaMem
import Derived.Test.YtpnmcinbohdmhaaRow0
import Derived.Test.YtpnmcinbohdmhaaSm
set_option linter.unusedSimpArgs false
namespace Go.Proofs.Ytpnmcinbohdmhaa
open Go Go.RowKit Kit
theorem eq24 (a b c d a' b' c' d' : Int) (w : World) : (Op.equalIn 10000 24 (.agg #[.int .u64 a, .int .u64 b, .int .u64 c, .int .u64 d]) (.agg #[.int .u64 a', .int .u64 b', .int .u64 c', .int .u64 d'])).run Try.prog w = .ok (a == a' && (b == b' && (c == c' && d == d'))) w := by
  have u3 := Try.underlying23
  have a3 := Try.isAgg23
  have z3 := Try.sizeOf23
  rw [show (10000 : Nat) = 9999 + 1 from rfl, Op.equalIn]
  simp only [Sem.run_bind, run_underlying Try.underlying24, Result.andThen_ok]
  simp only [Std.Legacy.Range.forIn_eq_forIn_range', Std.Legacy.Range.size, Nat.sub_zero, Nat.add_sub_cancel, Nat.div_one, List.range'_succ, List.range'_zero, List.forIn_cons, List.forIn_nil]
  go_simp
  by_cases h1 : a = a' <;> by_cases h2 : b = b' <;> by_cases h3 : c = c' <;> by_cases h4 : d = d' <;> simp [h1, h2, h3, h4]
theorem eq24s (a b c d : Int) (w : World) : (Op.equalIn 10000 24 (.agg #[.int .u64 a, .int .u64 b, .int .u64 c, .int .u64 d]) (.agg #[.int .u64 a, .int .u64 b, .int .u64 c, .int .u64 d])).run Try.prog w = .ok true w := by
  rw [eq24]; simp
def SameSaid (w : World) (e : Ending) (w' : World) : Prop := e = .returned (.bool true) ∧ Kept w w'
set_option maxRecDepth 100000 in
set_option maxHeartbeats 4000000 in
theorem same_any {S : Nat → Prop} {w : World} {u : Value} {z : Re} (hu : ReAt S w u z) : ∀ (w1 : World), Kept w w1 → ∀ (S2 : Nat → Prop) (v : Value), ReAt S2 w1 v z → Calls Try.prog 12 #[u, v] w1 (SameSaid w1) := by
  induction hu with
  | mk op x kids A cap vs h1 h2 hc hk ih =>
    intro w1 hw S2 v hv
    cases hv with
    | mk _ _ _ A2 cap2 vs2 h12 h22 hc2 hk2 =>
      have H := Lib.hid (alloc2 w1 (.cells #[.int .i64 op, wd x 0, wd x 1, wd x 2, wd x 3, .slice A kids.length cap] 27) (.cells #[.int .i64 op, wd x 0, wd x 1, wd x 2, wd x 3, .slice A2 kids.length cap2] 27))
      have HI := Lib.hid (And.intro ih (And.intro hc (And.intro hc2 hk2)))
      have HW := Lib.hid hw
      clear ih hc hk hc2 hk2 hw
      unfold maxLen at h2 h22
      have hn : (kids.length : Int) ≤ 9223372036854775807 := by omega
      generalize hm : kids.length = n at *
      have HM := Lib.hid hm
      clear hm
      simp only [re6, wd_eq] at *
      go_enter Try.func12, Try.ntmps12
      go_wp2
      rw [eq24s]
      simp only [Result.andThen_ok]
      rw [Oper.upon_value]
      go_wp2_with fail
      generalize hW : (w1.alloc _).alloc _ = W at H ⊢
      have HW1 : Hid (Kept w1 W) := Lib.hid (by rw [← hW]; exact ((Kept.refl _).alloc _).alloc _)
      clear hW
      go_loopw [5] (fun i wr => ∃ k : Nat, i = .int .i64 k ∧ k ≤ n ∧ Kept W wr) (fun i _ => n - (intOf i).toNat)
      case atStart => exact ⟨0, rfl, Nat.zero_le _, Kept.refl _⟩
      case round =>
        obtain ⟨k, rfl, hkn, hkw⟩ := hrel
        have HK := Lib.hid hkw
        have HB := Lib.hid (And.intro (hkw.blk H.out.1) (hkw.blk H.out.2.1))
        clear hkw
        obtain ⟨⟨a0, a1, a2, a3, a4, a5⟩, -⟩ := box6 HB.out.1
        obtain ⟨⟨b0, b1, b2, b3, b4, b5⟩, -⟩ := box6 HB.out.2
        by_cases hlt : k < n
        · have hlti : (k : Int) < n := by omega
          have hlt2 := hlt
          rw [← HM.out] at hlt2
          have hj : kids[k]? = some kids[k] := List.getElem?_eq_getElem hlt2
          obtain ⟨p, rfl, -, e0, e1, e2, e3, e4, e5, hv, c0, c1, c2, c3, c4, c5⟩ := HI.out.2.1 k _ hj
          obtain ⟨q, rfl, -, f0, f1, f2, f3, f4, f5, hv2, d0, d1, d2, d3, d4, d5⟩ := HI.out.2.2.1 k _ hj
          have hkw2 := HW.out.trans (HW1.out.trans HK.out)
          have hkw3 := HW1.out.trans HK.out
          have C := Lib.hid (And.intro (hkw2.cell c0) (And.intro (hkw2.cell c1) (And.intro (hkw2.cell c2) (And.intro (hkw2.cell c3) (And.intro (hkw2.cell c4) (hkw2.cell c5))))))
          have D := Lib.hid (And.intro (hkw3.cell d0) (And.intro (hkw3.cell d1) (And.intro (hkw3.cell d2) (And.intro (hkw3.cell d3) (And.intro (hkw3.cell d4) (hkw3.cell d5))))))
          have hrd := HI.out.2.2.2 k _ hj
          rw [hv2] at hrd
          have hcall := fun (w2 : World) (h2 : Kept wr w2) => HI.out.1 k _ hj w2 (hkw2.trans h2) S2 _ (hrd.kept (hkw3.trans h2))
          rw [hv] at hcall
          have HC := Lib.hid hcall
          have HE := Lib.hid (And.intro hv hv2)
          clear hcall hrd hkw2 hkw3 c0 c1 c2 c3 c4 c5 d0 d1 d2 d3 d4 d5 hj hv hv2
          have hk0 : (0 : Int) ≤ k := by omega
          go_wp2_with fail
          refine wp_region_go Kept pre_kept [([(2, none)], none), ([(34, some 0)], none), ([(5, none)], none), ([(35, some 1), (36, some 2)], none), ([(37, some 3)], none), ([(3, none)], none), ([(39, some 5)], none), ([(5, none)], none), ([(40, some 6), (41, some 7)], none), ([(42, some 8)], none), ([(38, some 4), (43, some 9)], none), ([(44, some 10)], none)] (by kernel_rfl) 46 rfl (by kernel_rfl) (by kernel_rfl) ?_
          apply go_val pre_kept
          · rintro ρ wr ⟨hg, hn, hc, hf, hgl⟩
            simp only [Need, fat, List.nil_append, List.cons_append, List.getD_cons_zero, List.getD_cons_succ, Fct.hold, and_true] at hn
            refine ⟨by simp [wantP, hn], ?_⟩
            simp [execOp, hn, hc, go_sem]
            exact rfl
          apply go_val pre_kept
          · rintro ρ wr ⟨hg, hn, hc, hf, hgl⟩
            simp only [Need, fat, List.nil_append, List.cons_append, List.getD_cons_zero, List.getD_cons_succ, Fct.hold, and_true] at hn
            have hl := And.intro (hg.cell a5) (hg.cell b5)
            refine ⟨by simp [wantP, hn], ?_⟩
            simp [execOp, hn, hc, hl, go_sem]
            exact rfl
          apply go_val pre_kept
          · rintro ρ wr ⟨hg, hn, hc, hf, hgl⟩
            simp only [Need, fat, List.nil_append, List.cons_append, List.getD_cons_zero, List.getD_cons_succ, Fct.hold, and_true] at hn
            refine ⟨by simp [wantP, hn], ?_⟩
            simp [execOp, hn, hc, go_sem]
            exact rfl
          apply go_val (x := .pointer (some ⟨p, k * 6, none⟩)) pre_kept
          · rintro ρ wr ⟨hg, hn, hc, hf, hgl⟩
            simp only [Need, fat, List.nil_append, List.cons_append, List.getD_cons_zero, List.getD_cons_succ, Fct.hold, and_true] at hn
            refine ⟨by simp [wantP, hn], ?_⟩
            simp [execOp, hn, hc, go_sem, hlt]
          apply go_val (x := .agg #[e0, e1, e2, e3, e4, e5]) pre_kept
          · rintro ρ wr ⟨hg, hn, hc, hf, hgl⟩
            simp only [Need, fat, List.nil_append, List.cons_append, List.getD_cons_zero, List.getD_cons_succ, Fct.hold, and_true] at hn
            refine ⟨by simp [wantP, hn], ?_⟩
            simp [execOp, hn, hc, go_sem, hg.cell C.out.1, hg.cell C.out.2.1, hg.cell C.out.2.2.1, hg.cell C.out.2.2.2.1, hg.cell C.out.2.2.2.2.1, hg.cell C.out.2.2.2.2.2]
          apply go_val pre_kept
          · rintro ρ wr ⟨hg, hn, hc, hf, hgl⟩
            simp only [Need, fat, List.nil_append, List.cons_append, List.getD_cons_zero, List.getD_cons_succ, Fct.hold, and_true] at hn
            refine ⟨by simp [wantP, hn], ?_⟩
            simp [execOp, hn, hc, go_sem]
            exact rfl
          apply go_val pre_kept
          · rintro ρ wr ⟨hg, hn, hc, hf, hgl⟩
            simp only [Need, fat, List.nil_append, List.cons_append, List.getD_cons_zero, List.getD_cons_succ, Fct.hold, and_true] at hn
            have hl := And.intro (hg.cell a5) (hg.cell b5)
            refine ⟨by simp [wantP, hn], ?_⟩
            simp [execOp, hn, hc, hl, go_sem]
            exact rfl
          apply go_val pre_kept
          · rintro ρ wr ⟨hg, hn, hc, hf, hgl⟩
            simp only [Need, fat, List.nil_append, List.cons_append, List.getD_cons_zero, List.getD_cons_succ, Fct.hold, and_true] at hn
            refine ⟨by simp [wantP, hn], ?_⟩
            simp [execOp, hn, hc, go_sem]
            exact rfl
          apply go_val (x := .pointer (some ⟨q, k * 6, none⟩)) pre_kept
          · rintro ρ wr ⟨hg, hn, hc, hf, hgl⟩
            simp only [Need, fat, List.nil_append, List.cons_append, List.getD_cons_zero, List.getD_cons_succ, Fct.hold, and_true] at hn
            refine ⟨by simp [wantP, hn], ?_⟩
            simp [execOp, hn, hc, go_sem, hlt]
          apply go_val (x := .agg #[f0, f1, f2, f3, f4, f5]) pre_kept
          · rintro ρ wr ⟨hg, hn, hc, hf, hgl⟩
            simp only [Need, fat, List.nil_append, List.cons_append, List.getD_cons_zero, List.getD_cons_succ, Fct.hold, and_true] at hn
            refine ⟨by simp [wantP, hn], ?_⟩
            simp [execOp, hn, hc, go_sem, hg.cell D.out.1, hg.cell D.out.2.1, hg.cell D.out.2.2.1, hg.cell D.out.2.2.2.1, hg.cell D.out.2.2.2.2.1, hg.cell D.out.2.2.2.2.2]
          apply go_callv (x := .bool true)
          · rintro ρ wr ⟨hg, hn, hc, hf, hgl⟩
            simp only [Need, fat, List.nil_append, List.cons_append, List.getD_cons_zero, List.getD_cons_succ, Fct.hold, and_true] at hn
            refine ⟨by simp [wantP, hn], _, _, by simp [execOp, hn, hf, hc, resolve, invoke, go_sem]; exact ⟨rfl, rfl⟩, ?_⟩
            exact (HC.out _ ((Kept.drew (Kept.refl _)).trans hg)).mono fun e w' ⟨h1, h2⟩ => ⟨_, h1, rfl, h2⟩
          apply go_val pre_kept
          · rintro ρ wr ⟨hg, hn, hc, hf, hgl⟩
            simp only [Need, fat, List.nil_append, List.cons_append, List.getD_cons_zero, List.getD_cons_succ, Fct.hold, and_true] at hn
            refine ⟨by simp [wantP, hn], ?_⟩
            simp [execOp, hn, hc, go_sem]
            exact rfl
          intro w2 hk2
          simp only [Post, List.nil_append, List.cons_append, Act.put, List.setIfInBounds_toArray, List.set_cons_zero, List.set_cons_succ]
          have HKN := Lib.hid (HK.out.trans ((Kept.drew (Kept.refl _)).trans hk2))
          clear hk2 a0 a1 a2 a3 a4 a5 b0 b1 b2 b3 b4 b5
          go_wp2_with fail
          go_roundw
          case rel => exact ⟨k + 1, by go_num, by omega, HKN.out⟩
          case measure => simp [intOf]; omega
        · have hge : ¬ (k : Int) < n := by omega
          go_wp2_with fail
          go_ret
          exact ⟨rfl, HW1.out.trans HK.out⟩
end Go.Proofs.Ytpnmcinbohdmhaa
