/-
  What the law RopeParts does.
-/
import Derived.Test.YtdobbindilibjaaAlive
import Derived.Test.YtdobbindilibjaaOpenR
set_option linter.unusedSimpArgs false
namespace Go.Proofs.Ytdobbindilibjaa
open Go Go.RowKit Kit
theorem sl0 (b : List UInt8) (k : Nat) (h : k ≤ b.length) : (b.take (max (max 0 (min (0 : Int) b.length)) (min (k : Int) b.length)).toNat).drop (max 0 (min (0 : Int) b.length)).toNat = b.take k := by
  rw [show (max 0 (min (0 : Int) b.length)).toNat = 0 from by omega, show (max (max 0 (min (0 : Int) b.length)) (min (k : Int) b.length)).toNat = k from by omega, List.drop_zero]
theorem sl1 (b : List UInt8) (k : Nat) (h : k ≤ b.length) : (b.take (max (max 0 (min (k : Int) b.length)) (min (b.length : Int) b.length)).toNat).drop (max 0 (min (k : Int) b.length)).toNat = b.drop k := by
  rw [show (max 0 (min (k : Int) b.length)).toNat = k from by omega, show (max (max 0 (min (k : Int) b.length)) (min (b.length : Int) b.length)).toNat = b.length from by omega, List.take_of_length_le (Nat.le_refl _)]
theorem do_all (b : List UInt8) : doL b 0 b.length [] = [] := by
  unfold doL cutI
  rw [show (max 0 (min 0 (b.length : Int))).toNat = 0 from by omega, show (max 0 (min (b.length : Int) (b.length - max 0 (min 0 (b.length : Int))))).toNat = b.length from by omega]
  simp
theorem and_bd (z : Int) : 0 ≤ Go.bits .and .i64 z 4095 ∧ Go.bits .and .i64 z 4095 ≤ 4095 := by
  have hb : (BitVec.ofInt 64 z &&& BitVec.ofInt 64 4095).toNat ≤ 4095 := by
    rw [BitVec.toNat_and]
    exact Nat.le_trans Nat.and_le_right (by decide)
  have e : Go.bits .and .i64 z 4095 = IntKind.i64.wrap ((BitVec.ofInt 64 z &&& BitVec.ofInt 64 4095).toNat : Int) := rfl
  rw [e, IntWalk.i64_in _ (by omega)]
  omega
theorem cut_bd (z : Int) (n : Nat) : ∃ k : Nat, k ≤ n ∧ (Go.bits .and .i64 z 4095).tmod ((n : Int) + 1) = (k : Int) := by
  have h := and_bd z
  generalize Go.bits .and .i64 z 4095 = q at *
  rw [Int.tmod_eq_emod_of_nonneg h.1]
  have h1 := Int.emod_nonneg q (by omega : (n : Int) + 1 ≠ 0)
  have h2 := Int.emod_lt_of_pos q (by omega : 0 < (n : Int) + 1)
  exact ⟨(q % ((n : Int) + 1)).toNat, by omega, by omega⟩
set_option maxHeartbeats 4000000 in
theorem parts_in (b : List UInt8) (l : List Int) (v1 v2 : Value) (w : World) (h1 : Bs w v1 b) (h2 : Is w v2 l) (hb : b.length ≤ 2000) (hl : l.length ≤ 30) : Calls Try.prog 6 #[v1, v2] w fun e w' => e = .returned (.bool true) ∧ Kept w w' := by
  have H12 := Lib.hid (And.intro h1 h2)
  obtain ⟨A1, c1, rfl⟩ := h1.form
  obtain ⟨A2, c2, rfl, -, -, hel⟩ := h2
  have HEL := Lib.hid hel
  clear h1 hel
  have x1 : ¬ (b.length : Int) > 2000 := by omega
  have x2 : ¬ (l.length : Int) > 30 := by omega
  go_enter Try.func6, Try.ntmps6
  go_wp2_with fail
  refine (alive_any w).mono ?_
  rintro e w1 ⟨rfl, k1⟩
  have K1 := Lib.hid k1
  clear k1
  go_wp2_with fail
  refine (new_any b (by omega) _ w1 (H12.out.1.keep K1.out)).mono ?_
  rintro e w2 ⟨u, m, rfl, h2, hm, k2⟩
  have H2 := Lib.hid h2
  obtain ⟨g, root, rfl, -⟩ := h2
  have K2 := Lib.hid (And.intro (K1.out.trans k2) (Nat.le_trans K1.out.size hm))
  clear hm k2 K1
  unfold ptr at *
  go_wp2_with fail
  go_loopw [7] (fun i W => ∃ (j : Nat), i = .int .i64 (j : Int) ∧ j ≤ l.length ∧ Kept w2 W) (fun i _ => l.length - (intOf i).toNat)
  case atStart => exact ⟨0, rfl, Nat.zero_le _, Kept.refl _⟩
  case round =>
    obtain ⟨j, rfl, hj, hkw⟩ := hrel
    have HR := Lib.hid (And.intro (H2.out.kept hkw) (And.intro (H12.out.1.keep (K2.out.1.trans hkw)) (And.intro hkw (K2.out.1.trans hkw))))
    clear hkw
    by_cases hlt : j < l.length
    · have y1 : (j : Int) < l.length := by omega
      obtain ⟨z, hz⟩ : ∃ z, l[j]? = some z := ⟨_, List.getElem?_eq_getElem hlt⟩
      obtain ⟨ad, rfl, hc⟩ := HEL.out j z hz
      have hcell := HR.out.2.2.2.cell hc
      clear hz hc
      obtain ⟨k, hk, ek⟩ := cut_bd z b.length
      have EK := Lib.hid ek
      clear ek
      have HL := Lib.hid (And.intro hb hk)
      go_wp2_with fail
      rw [EK.out]
      refine wp_region_go Kept pre_kept [([(6, none)], none), ([(8, none)], none), ([(43, some 0), (44, some 1)], none), ([(45, some 2)], none), ([(6, none)], none), ([(8, none)], none), ([(0, none)], none), ([(49, some 6)], none), ([(47, some 4), (48, some 5), (50, some 7)], none), ([(51, some 8)], none), ([(46, some 3), (52, some 9)], none), ([(0, none)], none), ([(54, some 11)], none), ([(53, some 10), (55, some 12)], none)] (by kernel_rfl) 80 rfl (by kernel_rfl) (by kernel_rfl) ?_
      apply go_val pre_kept
      · rintro ρ wr ⟨hg, hn, hc, hf, hgl⟩
        simp only [Need, fat, List.nil_append, List.cons_append, List.getD_cons_zero, List.getD_cons_succ, Fct.hold, and_true] at hn
        refine ⟨by simp [wantP, hn], ?_⟩
        simp [execOp, hn, hc, go_sem]
        exact rfl
      apply go_val pre_kept
      · rintro ρ wr ⟨hg, hn, hc, hf, hgl⟩
        simp only [Need, fat, List.nil_append, List.cons_append, List.getD_cons_zero, List.getD_cons_succ, Fct.hold, and_true] at hn
        refine ⟨by simp [wantP, hn], ?_⟩
        simp [execOp, hn, hc, go_sem]
        exact rfl
      refine go_call (p := fun u w' => Bs w' u (b.take k)) (fun _ _ _ h k => k.keep h) ?_ ?_
      · rintro ρ wr ⟨hg, hn, hc, hf, hgl⟩
        simp only [Need, fat, List.nil_append, List.cons_append, List.getD_cons_zero, List.getD_cons_succ, Fct.hold, and_true] at hn
        refine ⟨by simp [wantP], _, _, by simp [execOp, hn, hf, hc, resolve, invoke, go_sem]; exact ⟨rfl, rfl⟩, ?_⟩
        exact (Slice_any _ b m 0 k wr (HR.out.1.kept ((Kept.drew (Kept.refl _)).trans hg)) (by have := HL.out; omega)).mono fun e w' ⟨u, h1, h2, h3⟩ => ⟨u, h1, by rw [sl0 b k (by have := HL.out; omega)] at h2; exact h2, h3⟩
      apply go_val (x := .string ⟨(b.take k).toArray⟩) pre_kept
      · rintro ρ wr ⟨hg, hn, hc, hf, hgl⟩
        simp only [Need, fat, List.nil_append, List.cons_append, List.getD_cons_zero, List.getD_cons_succ, Fct.hold, and_true] at hn
        refine ⟨by simp [wantP], ?_⟩
        have hq := Bs.str (P := Try.prog) hn 22 9 5 Try.underlying22 Try.underlying5 Try.underlying9
        simp only [execOp]
        simp [hq, go_sem]
      apply go_val pre_kept
      · rintro ρ wr ⟨hg, hn, hc, hf, hgl⟩
        simp only [Need, fat, List.nil_append, List.cons_append, List.getD_cons_zero, List.getD_cons_succ, Fct.hold, and_true] at hn
        refine ⟨by simp [wantP, hn], ?_⟩
        simp [execOp, hn, hc, go_sem]
        exact rfl
      apply go_val pre_kept
      · rintro ρ wr ⟨hg, hn, hc, hf, hgl⟩
        simp only [Need, fat, List.nil_append, List.cons_append, List.getD_cons_zero, List.getD_cons_succ, Fct.hold, and_true] at hn
        refine ⟨by simp [wantP, hn], ?_⟩
        simp [execOp, hn, hc, go_sem]
        exact rfl
      apply go_val pre_kept
      · rintro ρ wr ⟨hg, hn, hc, hf, hgl⟩
        simp only [Need, fat, List.nil_append, List.cons_append, List.getD_cons_zero, List.getD_cons_succ, Fct.hold, and_true] at hn
        refine ⟨by simp [wantP, hn], ?_⟩
        simp [execOp, hn, hc, go_sem]
        exact rfl
      apply go_val pre_kept
      · rintro ρ wr ⟨hg, hn, hc, hf, hgl⟩
        simp only [Need, fat, List.nil_append, List.cons_append, List.getD_cons_zero, List.getD_cons_succ, Fct.hold, and_true] at hn
        refine ⟨by simp [wantP, hn], ?_⟩
        simp [execOp, hn, hc, go_sem]
        exact rfl
      refine go_call (p := fun u w' => Bs w' u (b.drop k)) (fun _ _ _ h k => k.keep h) ?_ ?_
      · rintro ρ wr ⟨hg, hn, hc, hf, hgl⟩
        simp only [Need, fat, List.nil_append, List.cons_append, List.getD_cons_zero, List.getD_cons_succ, Fct.hold, and_true] at hn
        refine ⟨by simp [wantP], _, _, by simp [execOp, hn, hf, hc, resolve, invoke, go_sem]; exact ⟨rfl, rfl⟩, ?_⟩
        exact (Slice_any _ b m k b.length wr (HR.out.1.kept ((Kept.drew (Kept.refl _)).trans hg)) (by have := HL.out; omega)).mono fun e w' ⟨u, h1, h2, h3⟩ => ⟨u, h1, by rw [sl1 b k (by have := HL.out; omega)] at h2; exact h2, h3⟩
      apply go_val (x := .string ⟨(b.drop k).toArray⟩) pre_kept
      · rintro ρ wr ⟨hg, hn, hc, hf, hgl⟩
        simp only [Need, fat, List.nil_append, List.cons_append, List.getD_cons_zero, List.getD_cons_succ, Fct.hold, and_true] at hn
        refine ⟨by simp [wantP], ?_⟩
        have hq := Bs.str (P := Try.prog) hn 22 9 5 Try.underlying22 Try.underlying5 Try.underlying9
        simp only [execOp]
        simp [hq, go_sem]
      apply go_val (x := .string ⟨b.toArray⟩) pre_kept
      · rintro ρ wr ⟨hg, hn, hc, hf, hgl⟩
        simp only [Need, fat, List.nil_append, List.cons_append, List.getD_cons_zero, List.getD_cons_succ, Fct.hold, and_true] at hn
        refine ⟨by simp [wantP], ?_⟩
        have hq : ¬ (9223372036854775807 < (b.take k).length + (b.drop k).length) := by have := HL.out; simp only [List.length_take, List.length_drop]; omega
        simp only [List.length_take, List.length_drop] at hq
        simp [execOp, hn, hc, go_sem, ba_app, hq, List.take_append_drop]
      apply go_val pre_kept
      · rintro ρ wr ⟨hg, hn, hc, hf, hgl⟩
        simp only [Need, fat, List.nil_append, List.cons_append, List.getD_cons_zero, List.getD_cons_succ, Fct.hold, and_true] at hn
        refine ⟨by simp [wantP, hn], ?_⟩
        simp [execOp, hn, hc, go_sem]
        exact rfl
      apply go_val (x := .string ⟨b.toArray⟩) pre_kept
      · rintro ρ wr ⟨hg, hn, hc, hf, hgl⟩
        simp only [Need, fat, List.nil_append, List.cons_append, List.getD_cons_zero, List.getD_cons_succ, Fct.hold, and_true] at hn
        refine ⟨by simp [wantP], ?_⟩
        have hq := Bs.str (P := Try.prog) (HR.out.2.1.keep ((Kept.drew (Kept.refl _)).trans hg)) 22 9 5 Try.underlying22 Try.underlying5 Try.underlying9
        simp only [execOp]
        simp [hn, hq, go_sem]
      apply go_val pre_kept
      · rintro ρ wr ⟨hg, hn, hc, hf, hgl⟩
        simp only [Need, fat, List.nil_append, List.cons_append, List.getD_cons_zero, List.getD_cons_succ, Fct.hold, and_true] at hn
        refine ⟨by simp [wantP, hn], ?_⟩
        simp [execOp, hn, hc, go_sem]
        exact rfl
      intro w2 hk2
      simp only [Post, List.nil_append, List.cons_append, Act.put, List.setIfInBounds_toArray, List.set_cons_zero, List.set_cons_succ]
      intro u45 h45 u51 h51
      clear h45 h51
      rename_i K hK
      refine hK _ _ ?_
      clear hK K
      have K3 := Lib.hid (HR.out.2.2.1.trans ((Kept.drew (Kept.refl _)).trans hk2))
      clear hk2
      go_wp2_with fail
      go_roundw
      case rel => exact ⟨j + 1, by go_num, by omega, K3.out⟩
      case measure => simp [intOf]; omega
    · have y1 : ¬ (j : Int) < l.length := by omega
      go_wp2_with fail
      refine (Splice_any _ b m 0 b.length _ [] wr HR.out.1 (Bs.nil _) (by omega) (by simp)).mono ?_
      rintro e w4 ⟨v4, rfl, h4, k4⟩
      rw [do_all] at h4
      have H4 := Lib.hid h4
      have K4 := Lib.hid (HR.out.2.2.2.above k4 K2.out.2)
      obtain ⟨g4, root4, rfl, -⟩ := h4
      clear k4
      unfold ptr
      go_wp2_with fail
      refine (Len_any _ [] m w4 H4.out).mono ?_
      rintro e w5 ⟨rfl, rfl⟩
      simp only [List.length_nil]
      go_wp2_with fail
      refine (Lines_any _ [] m w4 H4.out (by simp)).mono ?_
      rintro e w5 ⟨rfl, rfl⟩
      rw [show ((nl [] : Nat) : Int) + 1 = 1 from rfl]
      go_wp2_with fail
      refine (Slice_any _ [] m 0 5 w4 H4.out (by simp)).mono ?_
      rintro e w5 ⟨u5, rfl, h5, k5⟩
      have h5' : Bs w5 u5 [] := by simpa using h5
      obtain ⟨A5, c5, rfl⟩ := h5'.form
      have K5 := Lib.hid (K4.out.trans k5)
      clear h5 h5' k5
      simp only [List.length_nil]
      go_wp2_with fail
      go_ret
      exact ⟨rfl, K5.out⟩
theorem parts_any (b : List UInt8) (l : List Int) (v1 v2 : Value) (w : World) (h1 : Bs w v1 b) (h2 : Is w v2 l) : Calls Try.prog 6 #[v1, v2] w fun e w' => e = .returned (.bool true) ∧ Kept w w' := by
  by_cases h : b.length ≤ 2000 ∧ l.length ≤ 30
  · exact parts_in b l v1 v2 w h1 h2 h.1 h.2
  · obtain ⟨A1, c1, rfl⟩ := h1.form
    obtain ⟨A2, c2, rfl, -⟩ := h2
    clear h1
    by_cases h0 : b.length > 2000
    · have x1 : (b.length : Int) > 2000 := by omega
      clear h
      go_enter Try.func6, Try.ntmps6
      go_wp2_with fail
      refine (alive_any w).mono ?_
      rintro e w1 ⟨rfl, k1⟩
      have K1 := Lib.hid k1
      clear k1
      go_wp2_with fail
      go_ret
      exact ⟨rfl, K1.out⟩
    · have x1 : ¬ (b.length : Int) > 2000 := by omega
      have x2 : (l.length : Int) > 30 := by omega
      clear h
      go_enter Try.func6, Try.ntmps6
      go_wp2_with fail
      refine (alive_any w).mono ?_
      rintro e w1 ⟨rfl, k1⟩
      have K1 := Lib.hid k1
      clear k1
      go_wp2_with fail
      go_ret
      exact ⟨rfl, K1.out⟩
end Go.Proofs.Ytdobbindilibjaa
