/-
  What the document's own union makes of two lists of numbers. Conditions: neither is longer than 1000.
-/
import Derived.Test.YtdbffbdpofodmaaRw
set_option linter.unusedSimpArgs false
namespace Go.Proofs.Ytdbffbdpofodmaa
open Go Go.RowKit Kit
def uni : List Nat → List Nat → List Nat
  | [], ys => ys
  | a :: xs, [] => a :: xs
  | a :: xs, b :: ys => if a < b then a :: uni xs (b :: ys) else if b < a then b :: uni (a :: xs) ys else a :: uni xs ys
termination_by xs ys => xs.length + ys.length
theorem uni_nil (ys : List Nat) : uni [] ys = ys := by rw [uni]
theorem uni_nil2 (xs : List Nat) : uni xs [] = xs := by cases xs <;> rw [uni]
theorem uni_lt {a b : Nat} (xs ys : List Nat) (h : a < b) : uni (a :: xs) (b :: ys) = a :: uni xs (b :: ys) := by rw [uni, if_pos h]
theorem uni_gt {a b : Nat} (xs ys : List Nat) (h : b < a) : uni (a :: xs) (b :: ys) = b :: uni (a :: xs) ys := by rw [uni, if_neg (by omega), if_pos h]
theorem uni_eq {a b : Nat} (xs ys : List Nat) (h : a = b) : uni (a :: xs) (b :: ys) = a :: uni xs ys := by rw [uni, if_neg (by omega), if_neg (by omega)]
theorem uni_len (xs ys : List Nat) : (uni xs ys).length ≤ xs.length + ys.length := by
  induction xs, ys using uni.induct with
  | case1 => rw [uni_nil]; simp
  | case2 => rw [uni_nil2]; simp
  | case3 a s b t h ih => rw [uni_lt _ _ h]; simp at *; omega
  | case4 a s b t h1 h2 ih => rw [uni_gt _ _ h2]; simp at *; omega
  | case5 a s b t h1 h2 ih => rw [uni_eq _ _ (by omega)]; simp at *; omega
theorem Kit.Kept.grown {w W W' : World} {row : Option Nat} (h : Kept w W) (hg : W.grownBy W' row) (hr : ∀ b, row = some b → w.heap.size ≤ b) : Kept w W' :=
  ⟨hg.os.trans h.os, hg.tape.trans h.tape, hg.output.trans h.output, Nat.le_trans h.size hg.size, fun k hk => (hg.block k (Nat.lt_of_lt_of_le hk h.size) (fun e => by have := hr k e.symm; omega)).trans (h.block k hk)⟩
def UniSaid (base : Nat) (l : List Nat) (w : World) (e : Ending) (w' : World) : Prop := ∃ v, e = .returned v ∧ Ls (fun k => base ≤ k) w' v (ints l) ∧ Kept w w'
theorem drop_at {l : List Nat} {i x : Nat} (h : l[i]? = some x) : l.drop i = x :: l.drop (i + 1) := by
  obtain ⟨hlt, rfl⟩ := List.getElem?_eq_some_iff.1 h
  exact List.drop_eq_getElem_cons hlt
set_option maxRecDepth 100000 in
set_option maxHeartbeats 8000000 in
theorem union_go (Sa Sb : Nat → Prop) (A B : Option Addr) (ca cb : Nat) (xs ys : List Nat) (w : World) (ha : Ls Sa w (.slice A xs.length ca) (ints xs)) (hb : Ls Sb w (.slice B ys.length cb) (ints ys)) (h1 : xs.length ≤ 1000) (h2 : ys.length ≤ 1000) (R : List Nat) (HR : Hid (uni xs ys = R)) : Calls Try.prog 33 #[.slice A xs.length ca, .slice B ys.length cb] w (UniSaid w.heap.size R w) := by
  have HA := Lib.hid ha
  have HB := Lib.hid hb
  clear ha hb
  go_enter Try.func33, Try.ntmps33
  go_wp2_with fail
  go_loopw [5, 6, 7] (fun vo vi vk wr => ∃ (i k : Nat) (out : List Nat), vi = .int .i64 i ∧ vk = .int .i64 k ∧ i ≤ xs.length ∧ k ≤ ys.length ∧ out.length ≤ i + k ∧ out ++ uni (xs.drop i) (ys.drop k) = R ∧ R1 3 w.heap.size wr vo (ints out) ∧ Kept w wr) (fun _ vi vk _ => xs.length + ys.length - (intOf vi).toNat - (intOf vk).toNat)
  case atStart => exact ⟨0, 0, [], rfl, rfl, Nat.zero_le _, Nat.zero_le _, Nat.zero_le _, by simpa using HR.out, R1.nil _ _ _, Kept.refl _⟩
  case round =>
    obtain ⟨i, k, out, rfl, rfl, hi, hk, hol, hr, hrow, hkw⟩ := hrel
    have HR2 := Lib.hid hr
    have HO := Lib.hid hrow
    have HK := Lib.hid hkw
    have HOL := Lib.hid hol
    clear hr hrow hkw HR hol
    have hi0 : (0 : Int) ≤ i := by omega
    have hk0 : (0 : Int) ≤ k := by omega
    by_cases hlta0 : i < xs.length
    · by_cases hltb0 : k < ys.length
      · have hlta : (i : Int) < xs.length := by omega
        have hltb : (k : Int) < ys.length := by omega
        obtain ⟨a, ha⟩ : ∃ x, xs[i]? = some x := ⟨_, List.getElem?_eq_getElem hlta0⟩
        obtain ⟨pa, oa, rfl, -, hca⟩ := HA.out.at (ints_get ha)
        have CA := Lib.hid (HK.out.cell hca)
        have DA := Lib.hid (drop_at ha)
        clear ha hca
        obtain ⟨b, hb⟩ : ∃ x, ys[k]? = some x := ⟨_, List.getElem?_eq_getElem hltb0⟩
        obtain ⟨pb, ob, rfl, -, hcb⟩ := HB.out.at (ints_get hb)
        have CB := Lib.hid (HK.out.cell hcb)
        have DB := Lib.hid (drop_at hb)
        clear hb hcb
        by_cases hab0 : a < b
        · have hab : (a : Int) < b := by omega
          have habn := hab0
          have HRN : Hid (out ++ a :: uni (xs.drop (i + 1)) (ys.drop k) = R) := Lib.hid (by rw [← HR2.out, DA.out, DB.out, uni_lt _ _ hab0])
          clear HR2
          go_wp2_with fail
          refine wp_region_go Kept pre_kept [([(7, none)], none), ([(1, none)], none), ([(31, some 1)], none), ([(30, some 0), (32, some 2)], none), ([(33, some 3)], none), ([(6, none), (34, some 4)], some (34, false)), ([(0, none), (34, some 4)], some (34, false)), ([(36, some 6), (34, some 4)], some (34, false)), ([(35, some 5), (37, some 7), (34, some 4)], some (34, false)), ([(38, some 8), (34, some 4)], some (34, false)), ([(0, none), (39, some 9)], some (39, true)), ([(6, none), (39, some 9)], some (39, true)), ([(40, some 10), (41, some 11), (39, some 9)], some (39, true)), ([(42, some 12), (39, some 9)], some (39, true)), ([(1, none), (39, some 9)], some (39, true)), ([(7, none), (39, some 9)], some (39, true)), ([(44, some 14), (45, some 15), (39, some 9)], some (39, true)), ([(46, some 16), (39, some 9)], some (39, true)), ([(43, some 13), (47, some 17), (39, some 9)], some (39, true)), ([(39, some 9), (48, some 18), (34, some 4)], some (34, false)), ([(34, some 4), (49, some 19)], none), ([(50, some 20)], none)] (by kernel_rfl) 86 rfl (by kernel_rfl) (by kernel_rfl) ?_
          apply go_val pre_kept
          · rintro ρ wr ⟨hg, hn, hc, hf, hgl⟩
            simp only [Need, fat, List.nil_append, List.cons_append, List.getD_cons_zero, List.getD_cons_succ, Fct.hold, and_true] at hn
            refine ⟨by simp [wantP, hn], ?_⟩
            simp [execOp, hn, hc, go_sem]
            exact rfl
          apply go_val pre_kept
          · rintro ρ wr ⟨hg, hn, hc, hf, hgl⟩
            simp only [Need, fat, List.nil_append, List.cons_append, List.getD_cons_zero, List.getD_cons_succ, Fct.hold, and_true] at hn
            refine ⟨by simp [wantP, hn], ?_⟩
            simp [execOp, hn, hc, go_sem]
            exact rfl
          apply go_val pre_kept
          · rintro ρ wr ⟨hg, hn, hc, hf, hgl⟩
            simp only [Need, fat, List.nil_append, List.cons_append, List.getD_cons_zero, List.getD_cons_succ, Fct.hold, and_true] at hn
            refine ⟨by simp [wantP, hn], ?_⟩
            simp [execOp, hn, hc, go_sem]
            exact rfl
          apply go_val (x := .bool false) pre_kept
          · rintro ρ wr ⟨hg, hn, hc, hf, hgl⟩
            simp only [Need, fat, List.nil_append, List.cons_append, List.getD_cons_zero, List.getD_cons_succ, Fct.hold, and_true] at hn
            refine ⟨by simp [wantP, hn], ?_⟩
            simp [execOp, hn, hc, go_sem, hltb, hltb0]
          apply go_val pre_kept
          · rintro ρ wr ⟨hg, hn, hc, hf, hgl⟩
            simp only [Need, fat, List.nil_append, List.cons_append, List.getD_cons_zero, List.getD_cons_succ, Fct.hold, and_true] at hn
            refine ⟨by simp [wantP, hn], ?_⟩
            simp [execOp, hn, hc, go_sem]
            exact rfl
          apply go_val pre_kept
          · rintro ρ wr ⟨hg, hn, hc, hf, hgl⟩
            simp only [Need, fat, List.nil_append, List.cons_append, List.getD_cons_zero, List.getD_cons_succ, Fct.hold, and_true] at hn
            refine ⟨by simp [wantP, hn], ?_⟩
            simp [execOp, hn, hc, go_sem]
            exact rfl
          apply go_val pre_kept
          · rintro ρ wr ⟨hg, hn, hc, hf, hgl⟩
            simp only [Need, fat, List.nil_append, List.cons_append, List.getD_cons_zero, List.getD_cons_succ, Fct.hold, and_true] at hn
            refine ⟨by simp [wantP, hn], ?_⟩
            simp [execOp, hn, hc, go_sem]
            exact rfl
          apply go_val pre_kept
          · rintro ρ wr ⟨hg, hn, hc, hf, hgl⟩
            simp only [Need, fat, List.nil_append, List.cons_append, List.getD_cons_zero, List.getD_cons_succ, Fct.hold, and_true] at hn
            refine ⟨by simp [wantP, hn], ?_⟩
            simp [execOp, hn, hc, go_sem]
            exact rfl
          apply go_val (x := .bool true) pre_kept
          · rintro ρ wr ⟨hg, hn, hc, hf, hgl⟩
            simp only [Need, fat, List.nil_append, List.cons_append, List.getD_cons_zero, List.getD_cons_succ, Fct.hold, and_true] at hn
            refine ⟨by simp [wantP, hn], ?_⟩
            simp [execOp, hn, hc, go_sem, hlta, hlta0]
          apply go_val pre_kept
          · rintro ρ wr ⟨hg, hn, hc, hf, hgl⟩
            simp only [Need, fat, List.nil_append, List.cons_append, List.getD_cons_zero, List.getD_cons_succ, Fct.hold, and_true] at hn
            refine ⟨by simp [wantP, hn], ?_⟩
            simp [execOp, hn, hc, go_sem]
            exact rfl
          apply go_val pre_kept
          · rintro ρ wr ⟨hg, hn, hc, hf, hgl⟩
            simp only [Need, fat, List.nil_append, List.cons_append, List.getD_cons_zero, List.getD_cons_succ, Fct.hold, and_true] at hn
            refine ⟨by simp [wantP, hn], ?_⟩
            simp [execOp, hn, hc, go_sem]
            exact rfl
          apply go_val pre_kept
          · rintro ρ wr ⟨hg, hn, hc, hf, hgl⟩
            simp only [Need, fat, List.nil_append, List.cons_append, List.getD_cons_zero, List.getD_cons_succ, Fct.hold, and_true] at hn
            refine ⟨by simp [wantP, hn], ?_⟩
            simp [execOp, hn, hc, go_sem]
            exact rfl
          apply go_val (x := .pointer (some ⟨pa, oa + i, none⟩)) pre_kept
          · rintro ρ wr ⟨hg, hn, hc, hf, hgl⟩
            simp only [Need, fat, List.nil_append, List.cons_append, List.getD_cons_zero, List.getD_cons_succ, Fct.hold, and_true] at hn
            refine ⟨by simp [wantP, hn], ?_⟩
            simp [execOp, hn, hc, go_sem, hlta, hi0, hlta0]
          apply go_val (x := .int .i64 (a : Int)) pre_kept
          · rintro ρ wr ⟨hg, hn, hc, hf, hgl⟩
            simp only [Need, fat, List.nil_append, List.cons_append, List.getD_cons_zero, List.getD_cons_succ, Fct.hold, and_true] at hn
            refine ⟨by simp [wantP, hn], ?_⟩
            simp [execOp, hn, hc, go_sem, hg.cell CA.out]
          apply go_val pre_kept
          · rintro ρ wr ⟨hg, hn, hc, hf, hgl⟩
            simp only [Need, fat, List.nil_append, List.cons_append, List.getD_cons_zero, List.getD_cons_succ, Fct.hold, and_true] at hn
            refine ⟨by simp [wantP, hn], ?_⟩
            simp [execOp, hn, hc, go_sem]
            exact rfl
          apply go_val pre_kept
          · rintro ρ wr ⟨hg, hn, hc, hf, hgl⟩
            simp only [Need, fat, List.nil_append, List.cons_append, List.getD_cons_zero, List.getD_cons_succ, Fct.hold, and_true] at hn
            refine ⟨by simp [wantP, hn], ?_⟩
            simp [execOp, hn, hc, go_sem]
            exact rfl
          apply go_val (x := .pointer (some ⟨pb, ob + k, none⟩)) pre_kept
          · rintro ρ wr ⟨hg, hn, hc, hf, hgl⟩
            simp only [Need, fat, List.nil_append, List.cons_append, List.getD_cons_zero, List.getD_cons_succ, Fct.hold, and_true] at hn
            refine ⟨by simp [wantP, hn], ?_⟩
            simp [execOp, hn, hc, go_sem, hltb, hk0, hltb0]
          apply go_val (x := .int .i64 (b : Int)) pre_kept
          · rintro ρ wr ⟨hg, hn, hc, hf, hgl⟩
            simp only [Need, fat, List.nil_append, List.cons_append, List.getD_cons_zero, List.getD_cons_succ, Fct.hold, and_true] at hn
            refine ⟨by simp [wantP, hn], ?_⟩
            simp [execOp, hn, hc, go_sem, hg.cell CB.out]
          apply go_val (x := .bool true) pre_kept
          · rintro ρ wr ⟨hg, hn, hc, hf, hgl⟩
            simp only [Need, fat, List.nil_append, List.cons_append, List.getD_cons_zero, List.getD_cons_succ, Fct.hold, and_true] at hn
            refine ⟨by simp [wantP, hn], ?_⟩
            simp [execOp, hn, hc, go_sem, hab, habn]
          apply go_val (x := .bool true) pre_kept
          · rintro ρ wr ⟨hg, hn, hc, hf, hgl⟩
            simp only [Need, fat, List.nil_append, List.cons_append, List.getD_cons_zero, List.getD_cons_succ, Fct.hold, and_true] at hn
            refine ⟨by simp [wantP, hn], ?_⟩
            simp [execOp, hn, hc, go_sem]
          apply go_val (x := .bool true) pre_kept
          · rintro ρ wr ⟨hg, hn, hc, hf, hgl⟩
            simp only [Need, fat, List.nil_append, List.cons_append, List.getD_cons_zero, List.getD_cons_succ, Fct.hold, and_true] at hn
            refine ⟨by simp [wantP, hn], ?_⟩
            simp [execOp, hn, hc, go_sem]
          apply go_val pre_kept
          · rintro ρ wr ⟨hg, hn, hc, hf, hgl⟩
            simp only [Need, fat, List.nil_append, List.cons_append, List.getD_cons_zero, List.getD_cons_succ, Fct.hold, and_true] at hn
            refine ⟨by simp [wantP, hn], ?_⟩
            simp [execOp, hn, hc, go_sem]
            exact rfl
          intro w2 hk2
          simp only [Post, List.nil_append, List.cons_append, Act.put, List.setIfInBounds_toArray, List.set_cons_zero, List.set_cons_succ]
          rename_i hK
          refine hK _ _ ?_
          clear hK
          replace HO := Lib.hid (HO.out.kept ((Kept.drew (Kept.refl _)).trans hk2))
          replace HK := Lib.hid (HK.out.trans ((Kept.drew (Kept.refl _)).trans hk2))
          replace CA := Lib.hid (((Kept.drew (Kept.refl _)).trans hk2).cell CA.out)
          replace CB := Lib.hid (((Kept.drew (Kept.refl _)).trans hk2).cell CB.out)
          clear hk2
          have hc := CA.out
          have HB1 := Lib.hid (blk_new w2 (.cells #[.int .i64 (a : Nat)] 3))
          have HO1 := Lib.hid (HO.out.kept ((Kept.refl _).alloc (.cells #[.int .i64 (a : Nat)] 3)))
          have HK1 := Lib.hid (HK.out.alloc (.cells #[.int .i64 (a : Nat)] 3))
          have HO0 := Lib.hid HO1.out.form
          obtain ⟨A0, cap0, rfl⟩ := HO0.out
          clear HO0
          go_wp2_with (at_builtin; refine wpList_push1 rfl _ _ 30 3 (.inl ⟨rfl, rfl⟩) rfl rfl HO1.out (.int .i64 (a : Nat)) rfl w2.heap.size rfl (by rw [blk_cell HB1.out]; rfl) (by rw [ints_len]; have := HOL.out; omega) HK1.out.size ?_; intro v8 w8 hraw hgr hown)
          have HKN := Lib.hid (HK1.out.grown hgr (fun b hb => (HO1.out.own b hb).1))
          have HON := Lib.hid hraw
          clear hraw hgr hown HO1 HK1 HB1 HO HK hc
          go_wp2_with fail
          go_roundw
          case rel => exact ⟨i + 1, k, out ++ [a], by go_num, by go_num, by omega, by omega, by have := HOL.out; simp; omega, by rw [← HRN.out]; simp, by simpa [ints] using HON.out, HKN.out⟩
          case measure => simp [intOf]; omega
        · have hab : ¬ (a : Int) < b := by omega
          have habn : b ≤ a := by omega
          by_cases hba0 : b < a
          · have hba : (b : Int) < a := by omega
            have hban := hba0
            have HRN : Hid (out ++ b :: uni (xs.drop i) (ys.drop (k + 1)) = R) := Lib.hid (by rw [← HR2.out, DA.out, DB.out, uni_gt _ _ hba0])
            clear HR2
            go_wp2_with fail
            refine wp_region_go Kept pre_kept [([(7, none)], none), ([(1, none)], none), ([(31, some 1)], none), ([(30, some 0), (32, some 2)], none), ([(33, some 3)], none), ([(6, none), (34, some 4)], some (34, false)), ([(0, none), (34, some 4)], some (34, false)), ([(36, some 6), (34, some 4)], some (34, false)), ([(35, some 5), (37, some 7), (34, some 4)], some (34, false)), ([(38, some 8), (34, some 4)], some (34, false)), ([(0, none), (39, some 9)], some (39, true)), ([(6, none), (39, some 9)], some (39, true)), ([(40, some 10), (41, some 11), (39, some 9)], some (39, true)), ([(42, some 12), (39, some 9)], some (39, true)), ([(1, none), (39, some 9)], some (39, true)), ([(7, none), (39, some 9)], some (39, true)), ([(44, some 14), (45, some 15), (39, some 9)], some (39, true)), ([(46, some 16), (39, some 9)], some (39, true)), ([(43, some 13), (47, some 17), (39, some 9)], some (39, true)), ([(39, some 9), (48, some 18), (34, some 4)], some (34, false)), ([(34, some 4), (49, some 19)], none), ([(50, some 20)], none)] (by kernel_rfl) 86 rfl (by kernel_rfl) (by kernel_rfl) ?_
            apply go_val pre_kept
            · rintro ρ wr ⟨hg, hn, hc, hf, hgl⟩
              simp only [Need, fat, List.nil_append, List.cons_append, List.getD_cons_zero, List.getD_cons_succ, Fct.hold, and_true] at hn
              refine ⟨by simp [wantP, hn], ?_⟩
              simp [execOp, hn, hc, go_sem]
              exact rfl
            apply go_val pre_kept
            · rintro ρ wr ⟨hg, hn, hc, hf, hgl⟩
              simp only [Need, fat, List.nil_append, List.cons_append, List.getD_cons_zero, List.getD_cons_succ, Fct.hold, and_true] at hn
              refine ⟨by simp [wantP, hn], ?_⟩
              simp [execOp, hn, hc, go_sem]
              exact rfl
            apply go_val pre_kept
            · rintro ρ wr ⟨hg, hn, hc, hf, hgl⟩
              simp only [Need, fat, List.nil_append, List.cons_append, List.getD_cons_zero, List.getD_cons_succ, Fct.hold, and_true] at hn
              refine ⟨by simp [wantP, hn], ?_⟩
              simp [execOp, hn, hc, go_sem]
              exact rfl
            apply go_val (x := .bool false) pre_kept
            · rintro ρ wr ⟨hg, hn, hc, hf, hgl⟩
              simp only [Need, fat, List.nil_append, List.cons_append, List.getD_cons_zero, List.getD_cons_succ, Fct.hold, and_true] at hn
              refine ⟨by simp [wantP, hn], ?_⟩
              simp [execOp, hn, hc, go_sem, hltb, hltb0]
            apply go_val pre_kept
            · rintro ρ wr ⟨hg, hn, hc, hf, hgl⟩
              simp only [Need, fat, List.nil_append, List.cons_append, List.getD_cons_zero, List.getD_cons_succ, Fct.hold, and_true] at hn
              refine ⟨by simp [wantP, hn], ?_⟩
              simp [execOp, hn, hc, go_sem]
              exact rfl
            apply go_val pre_kept
            · rintro ρ wr ⟨hg, hn, hc, hf, hgl⟩
              simp only [Need, fat, List.nil_append, List.cons_append, List.getD_cons_zero, List.getD_cons_succ, Fct.hold, and_true] at hn
              refine ⟨by simp [wantP, hn], ?_⟩
              simp [execOp, hn, hc, go_sem]
              exact rfl
            apply go_val pre_kept
            · rintro ρ wr ⟨hg, hn, hc, hf, hgl⟩
              simp only [Need, fat, List.nil_append, List.cons_append, List.getD_cons_zero, List.getD_cons_succ, Fct.hold, and_true] at hn
              refine ⟨by simp [wantP, hn], ?_⟩
              simp [execOp, hn, hc, go_sem]
              exact rfl
            apply go_val pre_kept
            · rintro ρ wr ⟨hg, hn, hc, hf, hgl⟩
              simp only [Need, fat, List.nil_append, List.cons_append, List.getD_cons_zero, List.getD_cons_succ, Fct.hold, and_true] at hn
              refine ⟨by simp [wantP, hn], ?_⟩
              simp [execOp, hn, hc, go_sem]
              exact rfl
            apply go_val (x := .bool true) pre_kept
            · rintro ρ wr ⟨hg, hn, hc, hf, hgl⟩
              simp only [Need, fat, List.nil_append, List.cons_append, List.getD_cons_zero, List.getD_cons_succ, Fct.hold, and_true] at hn
              refine ⟨by simp [wantP, hn], ?_⟩
              simp [execOp, hn, hc, go_sem, hlta, hlta0]
            apply go_val pre_kept
            · rintro ρ wr ⟨hg, hn, hc, hf, hgl⟩
              simp only [Need, fat, List.nil_append, List.cons_append, List.getD_cons_zero, List.getD_cons_succ, Fct.hold, and_true] at hn
              refine ⟨by simp [wantP, hn], ?_⟩
              simp [execOp, hn, hc, go_sem]
              exact rfl
            apply go_val pre_kept
            · rintro ρ wr ⟨hg, hn, hc, hf, hgl⟩
              simp only [Need, fat, List.nil_append, List.cons_append, List.getD_cons_zero, List.getD_cons_succ, Fct.hold, and_true] at hn
              refine ⟨by simp [wantP, hn], ?_⟩
              simp [execOp, hn, hc, go_sem]
              exact rfl
            apply go_val pre_kept
            · rintro ρ wr ⟨hg, hn, hc, hf, hgl⟩
              simp only [Need, fat, List.nil_append, List.cons_append, List.getD_cons_zero, List.getD_cons_succ, Fct.hold, and_true] at hn
              refine ⟨by simp [wantP, hn], ?_⟩
              simp [execOp, hn, hc, go_sem]
              exact rfl
            apply go_val (x := .pointer (some ⟨pa, oa + i, none⟩)) pre_kept
            · rintro ρ wr ⟨hg, hn, hc, hf, hgl⟩
              simp only [Need, fat, List.nil_append, List.cons_append, List.getD_cons_zero, List.getD_cons_succ, Fct.hold, and_true] at hn
              refine ⟨by simp [wantP, hn], ?_⟩
              simp [execOp, hn, hc, go_sem, hlta, hi0, hlta0]
            apply go_val (x := .int .i64 (a : Int)) pre_kept
            · rintro ρ wr ⟨hg, hn, hc, hf, hgl⟩
              simp only [Need, fat, List.nil_append, List.cons_append, List.getD_cons_zero, List.getD_cons_succ, Fct.hold, and_true] at hn
              refine ⟨by simp [wantP, hn], ?_⟩
              simp [execOp, hn, hc, go_sem, hg.cell CA.out]
            apply go_val pre_kept
            · rintro ρ wr ⟨hg, hn, hc, hf, hgl⟩
              simp only [Need, fat, List.nil_append, List.cons_append, List.getD_cons_zero, List.getD_cons_succ, Fct.hold, and_true] at hn
              refine ⟨by simp [wantP, hn], ?_⟩
              simp [execOp, hn, hc, go_sem]
              exact rfl
            apply go_val pre_kept
            · rintro ρ wr ⟨hg, hn, hc, hf, hgl⟩
              simp only [Need, fat, List.nil_append, List.cons_append, List.getD_cons_zero, List.getD_cons_succ, Fct.hold, and_true] at hn
              refine ⟨by simp [wantP, hn], ?_⟩
              simp [execOp, hn, hc, go_sem]
              exact rfl
            apply go_val (x := .pointer (some ⟨pb, ob + k, none⟩)) pre_kept
            · rintro ρ wr ⟨hg, hn, hc, hf, hgl⟩
              simp only [Need, fat, List.nil_append, List.cons_append, List.getD_cons_zero, List.getD_cons_succ, Fct.hold, and_true] at hn
              refine ⟨by simp [wantP, hn], ?_⟩
              simp [execOp, hn, hc, go_sem, hltb, hk0, hltb0]
            apply go_val (x := .int .i64 (b : Int)) pre_kept
            · rintro ρ wr ⟨hg, hn, hc, hf, hgl⟩
              simp only [Need, fat, List.nil_append, List.cons_append, List.getD_cons_zero, List.getD_cons_succ, Fct.hold, and_true] at hn
              refine ⟨by simp [wantP, hn], ?_⟩
              simp [execOp, hn, hc, go_sem, hg.cell CB.out]
            apply go_val (x := .bool false) pre_kept
            · rintro ρ wr ⟨hg, hn, hc, hf, hgl⟩
              simp only [Need, fat, List.nil_append, List.cons_append, List.getD_cons_zero, List.getD_cons_succ, Fct.hold, and_true] at hn
              refine ⟨by simp [wantP, hn], ?_⟩
              simp [execOp, hn, hc, go_sem, hab, habn]
            apply go_val (x := .bool false) pre_kept
            · rintro ρ wr ⟨hg, hn, hc, hf, hgl⟩
              simp only [Need, fat, List.nil_append, List.cons_append, List.getD_cons_zero, List.getD_cons_succ, Fct.hold, and_true] at hn
              refine ⟨by simp [wantP, hn], ?_⟩
              simp [execOp, hn, hc, go_sem]
            apply go_val (x := .bool false) pre_kept
            · rintro ρ wr ⟨hg, hn, hc, hf, hgl⟩
              simp only [Need, fat, List.nil_append, List.cons_append, List.getD_cons_zero, List.getD_cons_succ, Fct.hold, and_true] at hn
              refine ⟨by simp [wantP, hn], ?_⟩
              simp [execOp, hn, hc, go_sem]
            apply go_val pre_kept
            · rintro ρ wr ⟨hg, hn, hc, hf, hgl⟩
              simp only [Need, fat, List.nil_append, List.cons_append, List.getD_cons_zero, List.getD_cons_succ, Fct.hold, and_true] at hn
              refine ⟨by simp [wantP, hn], ?_⟩
              simp [execOp, hn, hc, go_sem]
              exact rfl
            intro w2 hk2
            simp only [Post, List.nil_append, List.cons_append, Act.put, List.setIfInBounds_toArray, List.set_cons_zero, List.set_cons_succ]
            rename_i hK
            refine hK _ _ ?_
            clear hK
            replace HO := Lib.hid (HO.out.kept ((Kept.drew (Kept.refl _)).trans hk2))
            replace HK := Lib.hid (HK.out.trans ((Kept.drew (Kept.refl _)).trans hk2))
            replace CA := Lib.hid (((Kept.drew (Kept.refl _)).trans hk2).cell CA.out)
            replace CB := Lib.hid (((Kept.drew (Kept.refl _)).trans hk2).cell CB.out)
            clear hk2
            go_wp2_with fail
            refine wp_region_go Kept pre_kept [([(6, none)], none), ([(0, none)], none), ([(62, some 1)], none), ([(61, some 0), (63, some 2)], none), ([(64, some 3)], none), ([(1, none), (65, some 4)], some (65, false)), ([(7, none), (65, some 4)], some (65, false)), ([(66, some 5), (67, some 6), (65, some 4)], some (65, false)), ([(68, some 7), (65, some 4)], some (65, false)), ([(0, none), (65, some 4)], some (65, false)), ([(6, none), (65, some 4)], some (65, false)), ([(70, some 9), (71, some 10), (65, some 4)], some (65, false)), ([(72, some 11), (65, some 4)], some (65, false)), ([(69, some 8), (73, some 12), (65, some 4)], some (65, false)), ([(65, some 4), (74, some 13)], none), ([(75, some 14)], none)] (by kernel_rfl) 86 rfl (by kernel_rfl) (by kernel_rfl) ?_
            apply go_val pre_kept
            · rintro ρ wr ⟨hg, hn, hc, hf, hgl⟩
              simp only [Need, fat, List.nil_append, List.cons_append, List.getD_cons_zero, List.getD_cons_succ, Fct.hold, and_true] at hn
              refine ⟨by simp [wantP, hn], ?_⟩
              simp [execOp, hn, hc, go_sem]
              exact rfl
            apply go_val pre_kept
            · rintro ρ wr ⟨hg, hn, hc, hf, hgl⟩
              simp only [Need, fat, List.nil_append, List.cons_append, List.getD_cons_zero, List.getD_cons_succ, Fct.hold, and_true] at hn
              refine ⟨by simp [wantP, hn], ?_⟩
              simp [execOp, hn, hc, go_sem]
              exact rfl
            apply go_val pre_kept
            · rintro ρ wr ⟨hg, hn, hc, hf, hgl⟩
              simp only [Need, fat, List.nil_append, List.cons_append, List.getD_cons_zero, List.getD_cons_succ, Fct.hold, and_true] at hn
              refine ⟨by simp [wantP, hn], ?_⟩
              simp [execOp, hn, hc, go_sem]
              exact rfl
            apply go_val (x := .bool false) pre_kept
            · rintro ρ wr ⟨hg, hn, hc, hf, hgl⟩
              simp only [Need, fat, List.nil_append, List.cons_append, List.getD_cons_zero, List.getD_cons_succ, Fct.hold, and_true] at hn
              refine ⟨by simp [wantP, hn], ?_⟩
              simp [execOp, hn, hc, go_sem, hlta, hlta0]
            apply go_val pre_kept
            · rintro ρ wr ⟨hg, hn, hc, hf, hgl⟩
              simp only [Need, fat, List.nil_append, List.cons_append, List.getD_cons_zero, List.getD_cons_succ, Fct.hold, and_true] at hn
              refine ⟨by simp [wantP, hn], ?_⟩
              simp [execOp, hn, hc, go_sem]
              exact rfl
            apply go_val pre_kept
            · rintro ρ wr ⟨hg, hn, hc, hf, hgl⟩
              simp only [Need, fat, List.nil_append, List.cons_append, List.getD_cons_zero, List.getD_cons_succ, Fct.hold, and_true] at hn
              refine ⟨by simp [wantP, hn], ?_⟩
              simp [execOp, hn, hc, go_sem]
              exact rfl
            apply go_val pre_kept
            · rintro ρ wr ⟨hg, hn, hc, hf, hgl⟩
              simp only [Need, fat, List.nil_append, List.cons_append, List.getD_cons_zero, List.getD_cons_succ, Fct.hold, and_true] at hn
              refine ⟨by simp [wantP, hn], ?_⟩
              simp [execOp, hn, hc, go_sem]
              exact rfl
            apply go_val (x := .pointer (some ⟨pb, ob + k, none⟩)) pre_kept
            · rintro ρ wr ⟨hg, hn, hc, hf, hgl⟩
              simp only [Need, fat, List.nil_append, List.cons_append, List.getD_cons_zero, List.getD_cons_succ, Fct.hold, and_true] at hn
              refine ⟨by simp [wantP, hn], ?_⟩
              simp [execOp, hn, hc, go_sem, hltb, hk0, hltb0]
            apply go_val (x := .int .i64 (b : Int)) pre_kept
            · rintro ρ wr ⟨hg, hn, hc, hf, hgl⟩
              simp only [Need, fat, List.nil_append, List.cons_append, List.getD_cons_zero, List.getD_cons_succ, Fct.hold, and_true] at hn
              refine ⟨by simp [wantP, hn], ?_⟩
              simp [execOp, hn, hc, go_sem, hg.cell CB.out]
            apply go_val pre_kept
            · rintro ρ wr ⟨hg, hn, hc, hf, hgl⟩
              simp only [Need, fat, List.nil_append, List.cons_append, List.getD_cons_zero, List.getD_cons_succ, Fct.hold, and_true] at hn
              refine ⟨by simp [wantP, hn], ?_⟩
              simp [execOp, hn, hc, go_sem]
              exact rfl
            apply go_val pre_kept
            · rintro ρ wr ⟨hg, hn, hc, hf, hgl⟩
              simp only [Need, fat, List.nil_append, List.cons_append, List.getD_cons_zero, List.getD_cons_succ, Fct.hold, and_true] at hn
              refine ⟨by simp [wantP, hn], ?_⟩
              simp [execOp, hn, hc, go_sem]
              exact rfl
            apply go_val (x := .pointer (some ⟨pa, oa + i, none⟩)) pre_kept
            · rintro ρ wr ⟨hg, hn, hc, hf, hgl⟩
              simp only [Need, fat, List.nil_append, List.cons_append, List.getD_cons_zero, List.getD_cons_succ, Fct.hold, and_true] at hn
              refine ⟨by simp [wantP, hn], ?_⟩
              simp [execOp, hn, hc, go_sem, hlta, hi0, hlta0]
            apply go_val (x := .int .i64 (a : Int)) pre_kept
            · rintro ρ wr ⟨hg, hn, hc, hf, hgl⟩
              simp only [Need, fat, List.nil_append, List.cons_append, List.getD_cons_zero, List.getD_cons_succ, Fct.hold, and_true] at hn
              refine ⟨by simp [wantP, hn], ?_⟩
              simp [execOp, hn, hc, go_sem, hg.cell CA.out]
            apply go_val (x := .bool true) pre_kept
            · rintro ρ wr ⟨hg, hn, hc, hf, hgl⟩
              simp only [Need, fat, List.nil_append, List.cons_append, List.getD_cons_zero, List.getD_cons_succ, Fct.hold, and_true] at hn
              refine ⟨by simp [wantP, hn], ?_⟩
              simp [execOp, hn, hc, go_sem, hba, hban]
            apply go_val (x := .bool true) pre_kept
            · rintro ρ wr ⟨hg, hn, hc, hf, hgl⟩
              simp only [Need, fat, List.nil_append, List.cons_append, List.getD_cons_zero, List.getD_cons_succ, Fct.hold, and_true] at hn
              refine ⟨by simp [wantP, hn], ?_⟩
              simp [execOp, hn, hc, go_sem]
            apply go_val pre_kept
            · rintro ρ wr ⟨hg, hn, hc, hf, hgl⟩
              simp only [Need, fat, List.nil_append, List.cons_append, List.getD_cons_zero, List.getD_cons_succ, Fct.hold, and_true] at hn
              refine ⟨by simp [wantP, hn], ?_⟩
              simp [execOp, hn, hc, go_sem]
              exact rfl
            intro w3 hk3
            simp only [Post, List.nil_append, List.cons_append, Act.put, List.setIfInBounds_toArray, List.set_cons_zero, List.set_cons_succ]
            rename_i hK
            refine hK _ _ ?_
            clear hK
            replace HO := Lib.hid (HO.out.kept ((Kept.drew (Kept.refl _)).trans hk3))
            replace HK := Lib.hid (HK.out.trans ((Kept.drew (Kept.refl _)).trans hk3))
            replace CA := Lib.hid (((Kept.drew (Kept.refl _)).trans hk3).cell CA.out)
            replace CB := Lib.hid (((Kept.drew (Kept.refl _)).trans hk3).cell CB.out)
            clear hk3
            have hc := CB.out
            have HB1 := Lib.hid (blk_new w3 (.cells #[.int .i64 (b : Nat)] 3))
            have HO1 := Lib.hid (HO.out.kept ((Kept.refl _).alloc (.cells #[.int .i64 (b : Nat)] 3)))
            have HK1 := Lib.hid (HK.out.alloc (.cells #[.int .i64 (b : Nat)] 3))
            have HO0 := Lib.hid HO1.out.form
            obtain ⟨A0, cap0, rfl⟩ := HO0.out
            clear HO0
            go_wp2_with (at_builtin; refine wpList_push1 rfl _ _ 30 3 (.inl ⟨rfl, rfl⟩) rfl rfl HO1.out (.int .i64 (b : Nat)) rfl w3.heap.size rfl (by rw [blk_cell HB1.out]; rfl) (by rw [ints_len]; have := HOL.out; omega) HK1.out.size ?_; intro v8 w8 hraw hgr hown)
            have HKN := Lib.hid (HK1.out.grown hgr (fun b hb => (HO1.out.own b hb).1))
            have HON := Lib.hid hraw
            clear hraw hgr hown HO1 HK1 HB1 HO HK hc
            go_wp2_with fail
            go_roundw
            case rel => exact ⟨i, k + 1, out ++ [b], by go_num, by go_num, by omega, by omega, by have := HOL.out; simp; omega, by rw [← HRN.out]; simp, by simpa [ints] using HON.out, HKN.out⟩
            case measure => simp [intOf]; omega
          · have hba : ¬ (b : Int) < a := by omega
            have hban : a ≤ b := by omega
            have hab1 : a = b := by omega
            have HRN : Hid (out ++ a :: uni (xs.drop (i + 1)) (ys.drop (k + 1)) = R) := Lib.hid (by rw [← HR2.out, DA.out, DB.out, uni_eq _ _ hab1])
            clear HR2
            subst hab1
            go_wp2_with fail
            refine wp_region_go Kept pre_kept [([(7, none)], none), ([(1, none)], none), ([(31, some 1)], none), ([(30, some 0), (32, some 2)], none), ([(33, some 3)], none), ([(6, none), (34, some 4)], some (34, false)), ([(0, none), (34, some 4)], some (34, false)), ([(36, some 6), (34, some 4)], some (34, false)), ([(35, some 5), (37, some 7), (34, some 4)], some (34, false)), ([(38, some 8), (34, some 4)], some (34, false)), ([(0, none), (39, some 9)], some (39, true)), ([(6, none), (39, some 9)], some (39, true)), ([(40, some 10), (41, some 11), (39, some 9)], some (39, true)), ([(42, some 12), (39, some 9)], some (39, true)), ([(1, none), (39, some 9)], some (39, true)), ([(7, none), (39, some 9)], some (39, true)), ([(44, some 14), (45, some 15), (39, some 9)], some (39, true)), ([(46, some 16), (39, some 9)], some (39, true)), ([(43, some 13), (47, some 17), (39, some 9)], some (39, true)), ([(39, some 9), (48, some 18), (34, some 4)], some (34, false)), ([(34, some 4), (49, some 19)], none), ([(50, some 20)], none)] (by kernel_rfl) 86 rfl (by kernel_rfl) (by kernel_rfl) ?_
            apply go_val pre_kept
            · rintro ρ wr ⟨hg, hn, hc, hf, hgl⟩
              simp only [Need, fat, List.nil_append, List.cons_append, List.getD_cons_zero, List.getD_cons_succ, Fct.hold, and_true] at hn
              refine ⟨by simp [wantP, hn], ?_⟩
              simp [execOp, hn, hc, go_sem]
              exact rfl
            apply go_val pre_kept
            · rintro ρ wr ⟨hg, hn, hc, hf, hgl⟩
              simp only [Need, fat, List.nil_append, List.cons_append, List.getD_cons_zero, List.getD_cons_succ, Fct.hold, and_true] at hn
              refine ⟨by simp [wantP, hn], ?_⟩
              simp [execOp, hn, hc, go_sem]
              exact rfl
            apply go_val pre_kept
            · rintro ρ wr ⟨hg, hn, hc, hf, hgl⟩
              simp only [Need, fat, List.nil_append, List.cons_append, List.getD_cons_zero, List.getD_cons_succ, Fct.hold, and_true] at hn
              refine ⟨by simp [wantP, hn], ?_⟩
              simp [execOp, hn, hc, go_sem]
              exact rfl
            apply go_val (x := .bool false) pre_kept
            · rintro ρ wr ⟨hg, hn, hc, hf, hgl⟩
              simp only [Need, fat, List.nil_append, List.cons_append, List.getD_cons_zero, List.getD_cons_succ, Fct.hold, and_true] at hn
              refine ⟨by simp [wantP, hn], ?_⟩
              simp [execOp, hn, hc, go_sem, hltb, hltb0]
            apply go_val pre_kept
            · rintro ρ wr ⟨hg, hn, hc, hf, hgl⟩
              simp only [Need, fat, List.nil_append, List.cons_append, List.getD_cons_zero, List.getD_cons_succ, Fct.hold, and_true] at hn
              refine ⟨by simp [wantP, hn], ?_⟩
              simp [execOp, hn, hc, go_sem]
              exact rfl
            apply go_val pre_kept
            · rintro ρ wr ⟨hg, hn, hc, hf, hgl⟩
              simp only [Need, fat, List.nil_append, List.cons_append, List.getD_cons_zero, List.getD_cons_succ, Fct.hold, and_true] at hn
              refine ⟨by simp [wantP, hn], ?_⟩
              simp [execOp, hn, hc, go_sem]
              exact rfl
            apply go_val pre_kept
            · rintro ρ wr ⟨hg, hn, hc, hf, hgl⟩
              simp only [Need, fat, List.nil_append, List.cons_append, List.getD_cons_zero, List.getD_cons_succ, Fct.hold, and_true] at hn
              refine ⟨by simp [wantP, hn], ?_⟩
              simp [execOp, hn, hc, go_sem]
              exact rfl
            apply go_val pre_kept
            · rintro ρ wr ⟨hg, hn, hc, hf, hgl⟩
              simp only [Need, fat, List.nil_append, List.cons_append, List.getD_cons_zero, List.getD_cons_succ, Fct.hold, and_true] at hn
              refine ⟨by simp [wantP, hn], ?_⟩
              simp [execOp, hn, hc, go_sem]
              exact rfl
            apply go_val (x := .bool true) pre_kept
            · rintro ρ wr ⟨hg, hn, hc, hf, hgl⟩
              simp only [Need, fat, List.nil_append, List.cons_append, List.getD_cons_zero, List.getD_cons_succ, Fct.hold, and_true] at hn
              refine ⟨by simp [wantP, hn], ?_⟩
              simp [execOp, hn, hc, go_sem, hlta, hlta0]
            apply go_val pre_kept
            · rintro ρ wr ⟨hg, hn, hc, hf, hgl⟩
              simp only [Need, fat, List.nil_append, List.cons_append, List.getD_cons_zero, List.getD_cons_succ, Fct.hold, and_true] at hn
              refine ⟨by simp [wantP, hn], ?_⟩
              simp [execOp, hn, hc, go_sem]
              exact rfl
            apply go_val pre_kept
            · rintro ρ wr ⟨hg, hn, hc, hf, hgl⟩
              simp only [Need, fat, List.nil_append, List.cons_append, List.getD_cons_zero, List.getD_cons_succ, Fct.hold, and_true] at hn
              refine ⟨by simp [wantP, hn], ?_⟩
              simp [execOp, hn, hc, go_sem]
              exact rfl
            apply go_val pre_kept
            · rintro ρ wr ⟨hg, hn, hc, hf, hgl⟩
              simp only [Need, fat, List.nil_append, List.cons_append, List.getD_cons_zero, List.getD_cons_succ, Fct.hold, and_true] at hn
              refine ⟨by simp [wantP, hn], ?_⟩
              simp [execOp, hn, hc, go_sem]
              exact rfl
            apply go_val (x := .pointer (some ⟨pa, oa + i, none⟩)) pre_kept
            · rintro ρ wr ⟨hg, hn, hc, hf, hgl⟩
              simp only [Need, fat, List.nil_append, List.cons_append, List.getD_cons_zero, List.getD_cons_succ, Fct.hold, and_true] at hn
              refine ⟨by simp [wantP, hn], ?_⟩
              simp [execOp, hn, hc, go_sem, hlta, hi0, hlta0]
            apply go_val (x := .int .i64 (a : Int)) pre_kept
            · rintro ρ wr ⟨hg, hn, hc, hf, hgl⟩
              simp only [Need, fat, List.nil_append, List.cons_append, List.getD_cons_zero, List.getD_cons_succ, Fct.hold, and_true] at hn
              refine ⟨by simp [wantP, hn], ?_⟩
              simp [execOp, hn, hc, go_sem, hg.cell CA.out]
            apply go_val pre_kept
            · rintro ρ wr ⟨hg, hn, hc, hf, hgl⟩
              simp only [Need, fat, List.nil_append, List.cons_append, List.getD_cons_zero, List.getD_cons_succ, Fct.hold, and_true] at hn
              refine ⟨by simp [wantP, hn], ?_⟩
              simp [execOp, hn, hc, go_sem]
              exact rfl
            apply go_val pre_kept
            · rintro ρ wr ⟨hg, hn, hc, hf, hgl⟩
              simp only [Need, fat, List.nil_append, List.cons_append, List.getD_cons_zero, List.getD_cons_succ, Fct.hold, and_true] at hn
              refine ⟨by simp [wantP, hn], ?_⟩
              simp [execOp, hn, hc, go_sem]
              exact rfl
            apply go_val (x := .pointer (some ⟨pb, ob + k, none⟩)) pre_kept
            · rintro ρ wr ⟨hg, hn, hc, hf, hgl⟩
              simp only [Need, fat, List.nil_append, List.cons_append, List.getD_cons_zero, List.getD_cons_succ, Fct.hold, and_true] at hn
              refine ⟨by simp [wantP, hn], ?_⟩
              simp [execOp, hn, hc, go_sem, hltb, hk0, hltb0]
            apply go_val (x := .int .i64 (a : Int)) pre_kept
            · rintro ρ wr ⟨hg, hn, hc, hf, hgl⟩
              simp only [Need, fat, List.nil_append, List.cons_append, List.getD_cons_zero, List.getD_cons_succ, Fct.hold, and_true] at hn
              refine ⟨by simp [wantP, hn], ?_⟩
              simp [execOp, hn, hc, go_sem, hg.cell CB.out]
            apply go_val (x := .bool false) pre_kept
            · rintro ρ wr ⟨hg, hn, hc, hf, hgl⟩
              simp only [Need, fat, List.nil_append, List.cons_append, List.getD_cons_zero, List.getD_cons_succ, Fct.hold, and_true] at hn
              refine ⟨by simp [wantP, hn], ?_⟩
              simp [execOp, hn, hc, go_sem, hab, habn]
            apply go_val (x := .bool false) pre_kept
            · rintro ρ wr ⟨hg, hn, hc, hf, hgl⟩
              simp only [Need, fat, List.nil_append, List.cons_append, List.getD_cons_zero, List.getD_cons_succ, Fct.hold, and_true] at hn
              refine ⟨by simp [wantP, hn], ?_⟩
              simp [execOp, hn, hc, go_sem]
            apply go_val (x := .bool false) pre_kept
            · rintro ρ wr ⟨hg, hn, hc, hf, hgl⟩
              simp only [Need, fat, List.nil_append, List.cons_append, List.getD_cons_zero, List.getD_cons_succ, Fct.hold, and_true] at hn
              refine ⟨by simp [wantP, hn], ?_⟩
              simp [execOp, hn, hc, go_sem]
            apply go_val pre_kept
            · rintro ρ wr ⟨hg, hn, hc, hf, hgl⟩
              simp only [Need, fat, List.nil_append, List.cons_append, List.getD_cons_zero, List.getD_cons_succ, Fct.hold, and_true] at hn
              refine ⟨by simp [wantP, hn], ?_⟩
              simp [execOp, hn, hc, go_sem]
              exact rfl
            intro w2 hk2
            simp only [Post, List.nil_append, List.cons_append, Act.put, List.setIfInBounds_toArray, List.set_cons_zero, List.set_cons_succ]
            rename_i hK
            refine hK _ _ ?_
            clear hK
            replace HO := Lib.hid (HO.out.kept ((Kept.drew (Kept.refl _)).trans hk2))
            replace HK := Lib.hid (HK.out.trans ((Kept.drew (Kept.refl _)).trans hk2))
            replace CA := Lib.hid (((Kept.drew (Kept.refl _)).trans hk2).cell CA.out)
            replace CB := Lib.hid (((Kept.drew (Kept.refl _)).trans hk2).cell CB.out)
            clear hk2
            go_wp2_with fail
            refine wp_region_go Kept pre_kept [([(6, none)], none), ([(0, none)], none), ([(62, some 1)], none), ([(61, some 0), (63, some 2)], none), ([(64, some 3)], none), ([(1, none), (65, some 4)], some (65, false)), ([(7, none), (65, some 4)], some (65, false)), ([(66, some 5), (67, some 6), (65, some 4)], some (65, false)), ([(68, some 7), (65, some 4)], some (65, false)), ([(0, none), (65, some 4)], some (65, false)), ([(6, none), (65, some 4)], some (65, false)), ([(70, some 9), (71, some 10), (65, some 4)], some (65, false)), ([(72, some 11), (65, some 4)], some (65, false)), ([(69, some 8), (73, some 12), (65, some 4)], some (65, false)), ([(65, some 4), (74, some 13)], none), ([(75, some 14)], none)] (by kernel_rfl) 86 rfl (by kernel_rfl) (by kernel_rfl) ?_
            apply go_val pre_kept
            · rintro ρ wr ⟨hg, hn, hc, hf, hgl⟩
              simp only [Need, fat, List.nil_append, List.cons_append, List.getD_cons_zero, List.getD_cons_succ, Fct.hold, and_true] at hn
              refine ⟨by simp [wantP, hn], ?_⟩
              simp [execOp, hn, hc, go_sem]
              exact rfl
            apply go_val pre_kept
            · rintro ρ wr ⟨hg, hn, hc, hf, hgl⟩
              simp only [Need, fat, List.nil_append, List.cons_append, List.getD_cons_zero, List.getD_cons_succ, Fct.hold, and_true] at hn
              refine ⟨by simp [wantP, hn], ?_⟩
              simp [execOp, hn, hc, go_sem]
              exact rfl
            apply go_val pre_kept
            · rintro ρ wr ⟨hg, hn, hc, hf, hgl⟩
              simp only [Need, fat, List.nil_append, List.cons_append, List.getD_cons_zero, List.getD_cons_succ, Fct.hold, and_true] at hn
              refine ⟨by simp [wantP, hn], ?_⟩
              simp [execOp, hn, hc, go_sem]
              exact rfl
            apply go_val (x := .bool false) pre_kept
            · rintro ρ wr ⟨hg, hn, hc, hf, hgl⟩
              simp only [Need, fat, List.nil_append, List.cons_append, List.getD_cons_zero, List.getD_cons_succ, Fct.hold, and_true] at hn
              refine ⟨by simp [wantP, hn], ?_⟩
              simp [execOp, hn, hc, go_sem, hlta, hlta0]
            apply go_val pre_kept
            · rintro ρ wr ⟨hg, hn, hc, hf, hgl⟩
              simp only [Need, fat, List.nil_append, List.cons_append, List.getD_cons_zero, List.getD_cons_succ, Fct.hold, and_true] at hn
              refine ⟨by simp [wantP, hn], ?_⟩
              simp [execOp, hn, hc, go_sem]
              exact rfl
            apply go_val pre_kept
            · rintro ρ wr ⟨hg, hn, hc, hf, hgl⟩
              simp only [Need, fat, List.nil_append, List.cons_append, List.getD_cons_zero, List.getD_cons_succ, Fct.hold, and_true] at hn
              refine ⟨by simp [wantP, hn], ?_⟩
              simp [execOp, hn, hc, go_sem]
              exact rfl
            apply go_val pre_kept
            · rintro ρ wr ⟨hg, hn, hc, hf, hgl⟩
              simp only [Need, fat, List.nil_append, List.cons_append, List.getD_cons_zero, List.getD_cons_succ, Fct.hold, and_true] at hn
              refine ⟨by simp [wantP, hn], ?_⟩
              simp [execOp, hn, hc, go_sem]
              exact rfl
            apply go_val (x := .pointer (some ⟨pb, ob + k, none⟩)) pre_kept
            · rintro ρ wr ⟨hg, hn, hc, hf, hgl⟩
              simp only [Need, fat, List.nil_append, List.cons_append, List.getD_cons_zero, List.getD_cons_succ, Fct.hold, and_true] at hn
              refine ⟨by simp [wantP, hn], ?_⟩
              simp [execOp, hn, hc, go_sem, hltb, hk0, hltb0]
            apply go_val (x := .int .i64 (a : Int)) pre_kept
            · rintro ρ wr ⟨hg, hn, hc, hf, hgl⟩
              simp only [Need, fat, List.nil_append, List.cons_append, List.getD_cons_zero, List.getD_cons_succ, Fct.hold, and_true] at hn
              refine ⟨by simp [wantP, hn], ?_⟩
              simp [execOp, hn, hc, go_sem, hg.cell CB.out]
            apply go_val pre_kept
            · rintro ρ wr ⟨hg, hn, hc, hf, hgl⟩
              simp only [Need, fat, List.nil_append, List.cons_append, List.getD_cons_zero, List.getD_cons_succ, Fct.hold, and_true] at hn
              refine ⟨by simp [wantP, hn], ?_⟩
              simp [execOp, hn, hc, go_sem]
              exact rfl
            apply go_val pre_kept
            · rintro ρ wr ⟨hg, hn, hc, hf, hgl⟩
              simp only [Need, fat, List.nil_append, List.cons_append, List.getD_cons_zero, List.getD_cons_succ, Fct.hold, and_true] at hn
              refine ⟨by simp [wantP, hn], ?_⟩
              simp [execOp, hn, hc, go_sem]
              exact rfl
            apply go_val (x := .pointer (some ⟨pa, oa + i, none⟩)) pre_kept
            · rintro ρ wr ⟨hg, hn, hc, hf, hgl⟩
              simp only [Need, fat, List.nil_append, List.cons_append, List.getD_cons_zero, List.getD_cons_succ, Fct.hold, and_true] at hn
              refine ⟨by simp [wantP, hn], ?_⟩
              simp [execOp, hn, hc, go_sem, hlta, hi0, hlta0]
            apply go_val (x := .int .i64 (a : Int)) pre_kept
            · rintro ρ wr ⟨hg, hn, hc, hf, hgl⟩
              simp only [Need, fat, List.nil_append, List.cons_append, List.getD_cons_zero, List.getD_cons_succ, Fct.hold, and_true] at hn
              refine ⟨by simp [wantP, hn], ?_⟩
              simp [execOp, hn, hc, go_sem, hg.cell CA.out]
            apply go_val (x := .bool false) pre_kept
            · rintro ρ wr ⟨hg, hn, hc, hf, hgl⟩
              simp only [Need, fat, List.nil_append, List.cons_append, List.getD_cons_zero, List.getD_cons_succ, Fct.hold, and_true] at hn
              refine ⟨by simp [wantP, hn], ?_⟩
              simp [execOp, hn, hc, go_sem, hba, hban]
            apply go_val (x := .bool false) pre_kept
            · rintro ρ wr ⟨hg, hn, hc, hf, hgl⟩
              simp only [Need, fat, List.nil_append, List.cons_append, List.getD_cons_zero, List.getD_cons_succ, Fct.hold, and_true] at hn
              refine ⟨by simp [wantP, hn], ?_⟩
              simp [execOp, hn, hc, go_sem]
            apply go_val pre_kept
            · rintro ρ wr ⟨hg, hn, hc, hf, hgl⟩
              simp only [Need, fat, List.nil_append, List.cons_append, List.getD_cons_zero, List.getD_cons_succ, Fct.hold, and_true] at hn
              refine ⟨by simp [wantP, hn], ?_⟩
              simp [execOp, hn, hc, go_sem]
              exact rfl
            intro w3 hk3
            simp only [Post, List.nil_append, List.cons_append, Act.put, List.setIfInBounds_toArray, List.set_cons_zero, List.set_cons_succ]
            rename_i hK
            refine hK _ _ ?_
            clear hK
            replace HO := Lib.hid (HO.out.kept ((Kept.drew (Kept.refl _)).trans hk3))
            replace HK := Lib.hid (HK.out.trans ((Kept.drew (Kept.refl _)).trans hk3))
            replace CA := Lib.hid (((Kept.drew (Kept.refl _)).trans hk3).cell CA.out)
            replace CB := Lib.hid (((Kept.drew (Kept.refl _)).trans hk3).cell CB.out)
            clear hk3
            have hc := CA.out
            have HB1 := Lib.hid (blk_new w3 (.cells #[.int .i64 (a : Nat)] 3))
            have HO1 := Lib.hid (HO.out.kept ((Kept.refl _).alloc (.cells #[.int .i64 (a : Nat)] 3)))
            have HK1 := Lib.hid (HK.out.alloc (.cells #[.int .i64 (a : Nat)] 3))
            have HO0 := Lib.hid HO1.out.form
            obtain ⟨A0, cap0, rfl⟩ := HO0.out
            clear HO0
            go_wp2_with (at_builtin; refine wpList_push1 rfl _ _ 30 3 (.inl ⟨rfl, rfl⟩) rfl rfl HO1.out (.int .i64 (a : Nat)) rfl w3.heap.size rfl (by rw [blk_cell HB1.out]; rfl) (by rw [ints_len]; have := HOL.out; omega) HK1.out.size ?_; intro v8 w8 hraw hgr hown)
            have HKN := Lib.hid (HK1.out.grown hgr (fun b hb => (HO1.out.own b hb).1))
            have HON := Lib.hid hraw
            clear hraw hgr hown HO1 HK1 HB1 HO HK hc
            go_wp2_with fail
            go_roundw
            case rel => exact ⟨i + 1, k + 1, out ++ [a], by go_num, by go_num, by omega, by omega, by have := HOL.out; simp; omega, by rw [← HRN.out]; simp, by simpa [ints] using HON.out, HKN.out⟩
            case measure => simp [intOf]; omega
      · have hgeb0 : ys.length ≤ k := by omega
        have hlta : (i : Int) < xs.length := by omega
        have hgeb : (ys.length : Int) ≤ k := by omega
        obtain ⟨a, ha⟩ : ∃ x, xs[i]? = some x := ⟨_, List.getElem?_eq_getElem hlta0⟩
        obtain ⟨pa, oa, rfl, -, hca⟩ := HA.out.at (ints_get ha)
        have CA := Lib.hid (HK.out.cell hca)
        have DA := Lib.hid (drop_at ha)
        clear ha hca
        have HRN : Hid (out ++ a :: uni (xs.drop (i + 1)) (ys.drop k) = R) := Lib.hid (by rw [← HR2.out, DA.out, List.drop_eq_nil_of_le hgeb0, uni_nil2, uni_nil2])
        clear HR2
        go_wp2_with fail
        refine wp_region_go Kept pre_kept [([(7, none)], none), ([(1, none)], none), ([(31, some 1)], none), ([(30, some 0), (32, some 2)], none), ([(33, some 3)], none), ([(6, none), (34, some 4)], some (34, false)), ([(0, none), (34, some 4)], some (34, false)), ([(36, some 6), (34, some 4)], some (34, false)), ([(35, some 5), (37, some 7), (34, some 4)], some (34, false)), ([(38, some 8), (34, some 4)], some (34, false)), ([(0, none), (39, some 9)], some (39, true)), ([(6, none), (39, some 9)], some (39, true)), ([(40, some 10), (41, some 11), (39, some 9)], some (39, true)), ([(42, some 12), (39, some 9)], some (39, true)), ([(1, none), (39, some 9)], some (39, true)), ([(7, none), (39, some 9)], some (39, true)), ([(44, some 14), (45, some 15), (39, some 9)], some (39, true)), ([(46, some 16), (39, some 9)], some (39, true)), ([(43, some 13), (47, some 17), (39, some 9)], some (39, true)), ([(39, some 9), (48, some 18), (34, some 4)], some (34, false)), ([(34, some 4), (49, some 19)], none), ([(50, some 20)], none)] (by kernel_rfl) 86 rfl (by kernel_rfl) (by kernel_rfl) ?_
        apply go_val pre_kept
        · rintro ρ wr ⟨hg, hn, hc, hf, hgl⟩
          simp only [Need, fat, List.nil_append, List.cons_append, List.getD_cons_zero, List.getD_cons_succ, Fct.hold, and_true] at hn
          refine ⟨by simp [wantP, hn], ?_⟩
          simp [execOp, hn, hc, go_sem]
          exact rfl
        apply go_val pre_kept
        · rintro ρ wr ⟨hg, hn, hc, hf, hgl⟩
          simp only [Need, fat, List.nil_append, List.cons_append, List.getD_cons_zero, List.getD_cons_succ, Fct.hold, and_true] at hn
          refine ⟨by simp [wantP, hn], ?_⟩
          simp [execOp, hn, hc, go_sem]
          exact rfl
        apply go_val pre_kept
        · rintro ρ wr ⟨hg, hn, hc, hf, hgl⟩
          simp only [Need, fat, List.nil_append, List.cons_append, List.getD_cons_zero, List.getD_cons_succ, Fct.hold, and_true] at hn
          refine ⟨by simp [wantP, hn], ?_⟩
          simp [execOp, hn, hc, go_sem]
          exact rfl
        apply go_val (x := .bool true) pre_kept
        · rintro ρ wr ⟨hg, hn, hc, hf, hgl⟩
          simp only [Need, fat, List.nil_append, List.cons_append, List.getD_cons_zero, List.getD_cons_succ, Fct.hold, and_true] at hn
          refine ⟨by simp [wantP, hn], ?_⟩
          simp [execOp, hn, hc, go_sem, hgeb, hgeb0]
        apply go_val pre_kept
        · rintro ρ wr ⟨hg, hn, hc, hf, hgl⟩
          simp only [Need, fat, List.nil_append, List.cons_append, List.getD_cons_zero, List.getD_cons_succ, Fct.hold, and_true] at hn
          refine ⟨by simp [wantP, hn], ?_⟩
          simp [execOp, hn, hc, go_sem]
          exact rfl
        refine go_not pre_kept ?_ ?_
        · rintro ρ wr ⟨hg, hn, hc, hf, hgl⟩
          simp only [Need, fat, List.nil_append, List.cons_append, List.getD_cons_zero, List.getD_cons_succ, Fct.hold, and_true] at hn
          simp [wantP, hn]
        refine go_not pre_kept ?_ ?_
        · rintro ρ wr ⟨hg, hn, hc, hf, hgl⟩
          simp only [Need, fat, List.nil_append, List.cons_append, List.getD_cons_zero, List.getD_cons_succ, Fct.hold, and_true] at hn
          simp [wantP, hn]
        refine go_not pre_kept ?_ ?_
        · rintro ρ wr ⟨hg, hn, hc, hf, hgl⟩
          simp only [Need, fat, List.nil_append, List.cons_append, List.getD_cons_zero, List.getD_cons_succ, Fct.hold, and_true] at hn
          simp [wantP, hn]
        refine go_not pre_kept ?_ ?_
        · rintro ρ wr ⟨hg, hn, hc, hf, hgl⟩
          simp only [Need, fat, List.nil_append, List.cons_append, List.getD_cons_zero, List.getD_cons_succ, Fct.hold, and_true] at hn
          simp [wantP, hn]
        refine go_not pre_kept ?_ ?_
        · rintro ρ wr ⟨hg, hn, hc, hf, hgl⟩
          simp only [Need, fat, List.nil_append, List.cons_append, List.getD_cons_zero, List.getD_cons_succ, Fct.hold, and_true] at hn
          simp [wantP, hn]
        refine go_not pre_kept ?_ ?_
        · rintro ρ wr ⟨hg, hn, hc, hf, hgl⟩
          simp only [Need, fat, List.nil_append, List.cons_append, List.getD_cons_zero, List.getD_cons_succ, Fct.hold, and_true] at hn
          simp [wantP, hn, undef]
        refine go_not pre_kept ?_ ?_
        · rintro ρ wr ⟨hg, hn, hc, hf, hgl⟩
          simp only [Need, fat, List.nil_append, List.cons_append, List.getD_cons_zero, List.getD_cons_succ, Fct.hold, and_true] at hn
          simp [wantP, hn, undef]
        refine go_not pre_kept ?_ ?_
        · rintro ρ wr ⟨hg, hn, hc, hf, hgl⟩
          simp only [Need, fat, List.nil_append, List.cons_append, List.getD_cons_zero, List.getD_cons_succ, Fct.hold, and_true] at hn
          simp [wantP, hn, undef]
        refine go_not pre_kept ?_ ?_
        · rintro ρ wr ⟨hg, hn, hc, hf, hgl⟩
          simp only [Need, fat, List.nil_append, List.cons_append, List.getD_cons_zero, List.getD_cons_succ, Fct.hold, and_true] at hn
          simp [wantP, hn, undef]
        refine go_not pre_kept ?_ ?_
        · rintro ρ wr ⟨hg, hn, hc, hf, hgl⟩
          simp only [Need, fat, List.nil_append, List.cons_append, List.getD_cons_zero, List.getD_cons_succ, Fct.hold, and_true] at hn
          simp [wantP, hn, undef]
        refine go_not pre_kept ?_ ?_
        · rintro ρ wr ⟨hg, hn, hc, hf, hgl⟩
          simp only [Need, fat, List.nil_append, List.cons_append, List.getD_cons_zero, List.getD_cons_succ, Fct.hold, and_true] at hn
          simp [wantP, hn, undef]
        refine go_not pre_kept ?_ ?_
        · rintro ρ wr ⟨hg, hn, hc, hf, hgl⟩
          simp only [Need, fat, List.nil_append, List.cons_append, List.getD_cons_zero, List.getD_cons_succ, Fct.hold, and_true] at hn
          simp [wantP, hn, undef]
        refine go_not pre_kept ?_ ?_
        · rintro ρ wr ⟨hg, hn, hc, hf, hgl⟩
          simp only [Need, fat, List.nil_append, List.cons_append, List.getD_cons_zero, List.getD_cons_succ, Fct.hold, and_true] at hn
          simp [wantP, hn, undef]
        refine go_not pre_kept ?_ ?_
        · rintro ρ wr ⟨hg, hn, hc, hf, hgl⟩
          simp only [Need, fat, List.nil_append, List.cons_append, List.getD_cons_zero, List.getD_cons_succ, Fct.hold, and_true] at hn
          simp [wantP, hn, undef]
        refine go_not pre_kept ?_ ?_
        · rintro ρ wr ⟨hg, hn, hc, hf, hgl⟩
          simp only [Need, fat, List.nil_append, List.cons_append, List.getD_cons_zero, List.getD_cons_succ, Fct.hold, and_true] at hn
          simp [wantP, hn]
        apply go_val (x := .bool true) pre_kept
        · rintro ρ wr ⟨hg, hn, hc, hf, hgl⟩
          simp only [Need, fat, List.nil_append, List.cons_append, List.getD_cons_zero, List.getD_cons_succ, Fct.hold, and_true] at hn
          refine ⟨by simp [wantP, hn], ?_⟩
          simp [execOp, hn, hc, go_sem]
        apply go_val pre_kept
        · rintro ρ wr ⟨hg, hn, hc, hf, hgl⟩
          simp only [Need, fat, List.nil_append, List.cons_append, List.getD_cons_zero, List.getD_cons_succ, Fct.hold, and_true] at hn
          refine ⟨by simp [wantP, hn], ?_⟩
          simp [execOp, hn, hc, go_sem]
          exact rfl
        intro w2 hk2
        simp only [Post, List.nil_append, List.cons_append, Act.put, List.setIfInBounds_toArray, List.set_cons_zero, List.set_cons_succ]
        rename_i hK
        refine hK _ _ ?_
        clear hK
        replace HO := Lib.hid (HO.out.kept ((Kept.drew (Kept.refl _)).trans hk2))
        replace HK := Lib.hid (HK.out.trans ((Kept.drew (Kept.refl _)).trans hk2))
        replace CA := Lib.hid (((Kept.drew (Kept.refl _)).trans hk2).cell CA.out)
        clear hk2
        have hc := CA.out
        have HB1 := Lib.hid (blk_new w2 (.cells #[.int .i64 (a : Nat)] 3))
        have HO1 := Lib.hid (HO.out.kept ((Kept.refl _).alloc (.cells #[.int .i64 (a : Nat)] 3)))
        have HK1 := Lib.hid (HK.out.alloc (.cells #[.int .i64 (a : Nat)] 3))
        have HO0 := Lib.hid HO1.out.form
        obtain ⟨A0, cap0, rfl⟩ := HO0.out
        clear HO0
        go_wp2_with (at_builtin; refine wpList_push1 rfl _ _ 30 3 (.inl ⟨rfl, rfl⟩) rfl rfl HO1.out (.int .i64 (a : Nat)) rfl w2.heap.size rfl (by rw [blk_cell HB1.out]; rfl) (by rw [ints_len]; have := HOL.out; omega) HK1.out.size ?_; intro v8 w8 hraw hgr hown)
        have HKN := Lib.hid (HK1.out.grown hgr (fun b hb => (HO1.out.own b hb).1))
        have HON := Lib.hid hraw
        clear hraw hgr hown HO1 HK1 HB1 HO HK hc
        go_wp2_with fail
        go_roundw
        case rel => exact ⟨i + 1, k, out ++ [a], by go_num, by go_num, by omega, by omega, by have := HOL.out; simp; omega, by rw [← HRN.out]; simp, by simpa [ints] using HON.out, HKN.out⟩
        case measure => simp [intOf]; omega
    · have hgea0 : xs.length ≤ i := by omega
      by_cases hltb0 : k < ys.length
      · have hgea : ¬ (i : Int) < xs.length := by omega
        have hgea2 : (xs.length : Int) ≤ i := by omega
        have hltb : (k : Int) < ys.length := by omega
        obtain ⟨b, hb⟩ : ∃ x, ys[k]? = some x := ⟨_, List.getElem?_eq_getElem hltb0⟩
        obtain ⟨pb, ob, rfl, -, hcb⟩ := HB.out.at (ints_get hb)
        have CB := Lib.hid (HK.out.cell hcb)
        have DB := Lib.hid (drop_at hb)
        clear hb hcb
        have HRN : Hid (out ++ b :: uni (xs.drop i) (ys.drop (k + 1)) = R) := Lib.hid (by rw [← HR2.out, DB.out, List.drop_eq_nil_of_le hgea0, uni_nil, uni_nil])
        clear HR2
        go_wp2_with fail
        refine wp_region_go Kept pre_kept [([(7, none)], none), ([(1, none)], none), ([(31, some 1)], none), ([(30, some 0), (32, some 2)], none), ([(33, some 3)], none), ([(6, none), (34, some 4)], some (34, false)), ([(0, none), (34, some 4)], some (34, false)), ([(36, some 6), (34, some 4)], some (34, false)), ([(35, some 5), (37, some 7), (34, some 4)], some (34, false)), ([(38, some 8), (34, some 4)], some (34, false)), ([(0, none), (39, some 9)], some (39, true)), ([(6, none), (39, some 9)], some (39, true)), ([(40, some 10), (41, some 11), (39, some 9)], some (39, true)), ([(42, some 12), (39, some 9)], some (39, true)), ([(1, none), (39, some 9)], some (39, true)), ([(7, none), (39, some 9)], some (39, true)), ([(44, some 14), (45, some 15), (39, some 9)], some (39, true)), ([(46, some 16), (39, some 9)], some (39, true)), ([(43, some 13), (47, some 17), (39, some 9)], some (39, true)), ([(39, some 9), (48, some 18), (34, some 4)], some (34, false)), ([(34, some 4), (49, some 19)], none), ([(50, some 20)], none)] (by kernel_rfl) 86 rfl (by kernel_rfl) (by kernel_rfl) ?_
        apply go_val pre_kept
        · rintro ρ wr ⟨hg, hn, hc, hf, hgl⟩
          simp only [Need, fat, List.nil_append, List.cons_append, List.getD_cons_zero, List.getD_cons_succ, Fct.hold, and_true] at hn
          refine ⟨by simp [wantP, hn], ?_⟩
          simp [execOp, hn, hc, go_sem]
          exact rfl
        apply go_val pre_kept
        · rintro ρ wr ⟨hg, hn, hc, hf, hgl⟩
          simp only [Need, fat, List.nil_append, List.cons_append, List.getD_cons_zero, List.getD_cons_succ, Fct.hold, and_true] at hn
          refine ⟨by simp [wantP, hn], ?_⟩
          simp [execOp, hn, hc, go_sem]
          exact rfl
        apply go_val pre_kept
        · rintro ρ wr ⟨hg, hn, hc, hf, hgl⟩
          simp only [Need, fat, List.nil_append, List.cons_append, List.getD_cons_zero, List.getD_cons_succ, Fct.hold, and_true] at hn
          refine ⟨by simp [wantP, hn], ?_⟩
          simp [execOp, hn, hc, go_sem]
          exact rfl
        apply go_val (x := .bool false) pre_kept
        · rintro ρ wr ⟨hg, hn, hc, hf, hgl⟩
          simp only [Need, fat, List.nil_append, List.cons_append, List.getD_cons_zero, List.getD_cons_succ, Fct.hold, and_true] at hn
          refine ⟨by simp [wantP, hn], ?_⟩
          simp [execOp, hn, hc, go_sem, hltb, hltb0]
        apply go_val pre_kept
        · rintro ρ wr ⟨hg, hn, hc, hf, hgl⟩
          simp only [Need, fat, List.nil_append, List.cons_append, List.getD_cons_zero, List.getD_cons_succ, Fct.hold, and_true] at hn
          refine ⟨by simp [wantP, hn], ?_⟩
          simp [execOp, hn, hc, go_sem]
          exact rfl
        apply go_val pre_kept
        · rintro ρ wr ⟨hg, hn, hc, hf, hgl⟩
          simp only [Need, fat, List.nil_append, List.cons_append, List.getD_cons_zero, List.getD_cons_succ, Fct.hold, and_true] at hn
          refine ⟨by simp [wantP, hn], ?_⟩
          simp [execOp, hn, hc, go_sem]
          exact rfl
        apply go_val pre_kept
        · rintro ρ wr ⟨hg, hn, hc, hf, hgl⟩
          simp only [Need, fat, List.nil_append, List.cons_append, List.getD_cons_zero, List.getD_cons_succ, Fct.hold, and_true] at hn
          refine ⟨by simp [wantP, hn], ?_⟩
          simp [execOp, hn, hc, go_sem]
          exact rfl
        apply go_val pre_kept
        · rintro ρ wr ⟨hg, hn, hc, hf, hgl⟩
          simp only [Need, fat, List.nil_append, List.cons_append, List.getD_cons_zero, List.getD_cons_succ, Fct.hold, and_true] at hn
          refine ⟨by simp [wantP, hn], ?_⟩
          simp [execOp, hn, hc, go_sem]
          exact rfl
        apply go_val (x := .bool false) pre_kept
        · rintro ρ wr ⟨hg, hn, hc, hf, hgl⟩
          simp only [Need, fat, List.nil_append, List.cons_append, List.getD_cons_zero, List.getD_cons_succ, Fct.hold, and_true] at hn
          refine ⟨by simp [wantP, hn], ?_⟩
          simp [execOp, hn, hc, go_sem, hgea, hgea0]
        apply go_val pre_kept
        · rintro ρ wr ⟨hg, hn, hc, hf, hgl⟩
          simp only [Need, fat, List.nil_append, List.cons_append, List.getD_cons_zero, List.getD_cons_succ, Fct.hold, and_true] at hn
          refine ⟨by simp [wantP, hn], ?_⟩
          simp [execOp, hn, hc, go_sem]
          exact rfl
        refine go_not pre_kept ?_ ?_
        · rintro ρ wr ⟨hg, hn, hc, hf, hgl⟩
          simp only [Need, fat, List.nil_append, List.cons_append, List.getD_cons_zero, List.getD_cons_succ, Fct.hold, and_true] at hn
          simp [wantP, hn]
        refine go_not pre_kept ?_ ?_
        · rintro ρ wr ⟨hg, hn, hc, hf, hgl⟩
          simp only [Need, fat, List.nil_append, List.cons_append, List.getD_cons_zero, List.getD_cons_succ, Fct.hold, and_true] at hn
          simp [wantP, hn]
        refine go_not pre_kept ?_ ?_
        · rintro ρ wr ⟨hg, hn, hc, hf, hgl⟩
          simp only [Need, fat, List.nil_append, List.cons_append, List.getD_cons_zero, List.getD_cons_succ, Fct.hold, and_true] at hn
          simp [wantP, hn]
        refine go_not pre_kept ?_ ?_
        · rintro ρ wr ⟨hg, hn, hc, hf, hgl⟩
          simp only [Need, fat, List.nil_append, List.cons_append, List.getD_cons_zero, List.getD_cons_succ, Fct.hold, and_true] at hn
          simp [wantP, hn]
        refine go_not pre_kept ?_ ?_
        · rintro ρ wr ⟨hg, hn, hc, hf, hgl⟩
          simp only [Need, fat, List.nil_append, List.cons_append, List.getD_cons_zero, List.getD_cons_succ, Fct.hold, and_true] at hn
          simp [wantP, hn]
        refine go_not pre_kept ?_ ?_
        · rintro ρ wr ⟨hg, hn, hc, hf, hgl⟩
          simp only [Need, fat, List.nil_append, List.cons_append, List.getD_cons_zero, List.getD_cons_succ, Fct.hold, and_true] at hn
          simp [wantP, hn]
        refine go_not pre_kept ?_ ?_
        · rintro ρ wr ⟨hg, hn, hc, hf, hgl⟩
          simp only [Need, fat, List.nil_append, List.cons_append, List.getD_cons_zero, List.getD_cons_succ, Fct.hold, and_true] at hn
          simp [wantP, hn]
        refine go_not pre_kept ?_ ?_
        · rintro ρ wr ⟨hg, hn, hc, hf, hgl⟩
          simp only [Need, fat, List.nil_append, List.cons_append, List.getD_cons_zero, List.getD_cons_succ, Fct.hold, and_true] at hn
          simp [wantP, hn]
        refine go_not pre_kept ?_ ?_
        · rintro ρ wr ⟨hg, hn, hc, hf, hgl⟩
          simp only [Need, fat, List.nil_append, List.cons_append, List.getD_cons_zero, List.getD_cons_succ, Fct.hold, and_true] at hn
          simp [wantP, hn]
        apply go_val (x := .bool false) pre_kept
        · rintro ρ wr ⟨hg, hn, hc, hf, hgl⟩
          simp only [Need, fat, List.nil_append, List.cons_append, List.getD_cons_zero, List.getD_cons_succ, Fct.hold, and_true] at hn
          refine ⟨by simp [wantP, hn], ?_⟩
          simp [execOp, hn, hc, go_sem]
        apply go_val (x := .bool false) pre_kept
        · rintro ρ wr ⟨hg, hn, hc, hf, hgl⟩
          simp only [Need, fat, List.nil_append, List.cons_append, List.getD_cons_zero, List.getD_cons_succ, Fct.hold, and_true] at hn
          refine ⟨by simp [wantP, hn], ?_⟩
          simp [execOp, hn, hc, go_sem]
        apply go_val pre_kept
        · rintro ρ wr ⟨hg, hn, hc, hf, hgl⟩
          simp only [Need, fat, List.nil_append, List.cons_append, List.getD_cons_zero, List.getD_cons_succ, Fct.hold, and_true] at hn
          refine ⟨by simp [wantP, hn], ?_⟩
          simp [execOp, hn, hc, go_sem]
          exact rfl
        intro w2 hk2
        simp only [Post, List.nil_append, List.cons_append, Act.put, List.setIfInBounds_toArray, List.set_cons_zero, List.set_cons_succ]
        rename_i hK
        refine hK _ _ ?_
        clear hK
        replace HO := Lib.hid (HO.out.kept ((Kept.drew (Kept.refl _)).trans hk2))
        replace HK := Lib.hid (HK.out.trans ((Kept.drew (Kept.refl _)).trans hk2))
        replace CB := Lib.hid (((Kept.drew (Kept.refl _)).trans hk2).cell CB.out)
        clear hk2
        go_wp2_with fail
        refine wp_region_go Kept pre_kept [([(6, none)], none), ([(0, none)], none), ([(62, some 1)], none), ([(61, some 0), (63, some 2)], none), ([(64, some 3)], none), ([(1, none), (65, some 4)], some (65, false)), ([(7, none), (65, some 4)], some (65, false)), ([(66, some 5), (67, some 6), (65, some 4)], some (65, false)), ([(68, some 7), (65, some 4)], some (65, false)), ([(0, none), (65, some 4)], some (65, false)), ([(6, none), (65, some 4)], some (65, false)), ([(70, some 9), (71, some 10), (65, some 4)], some (65, false)), ([(72, some 11), (65, some 4)], some (65, false)), ([(69, some 8), (73, some 12), (65, some 4)], some (65, false)), ([(65, some 4), (74, some 13)], none), ([(75, some 14)], none)] (by kernel_rfl) 86 rfl (by kernel_rfl) (by kernel_rfl) ?_
        apply go_val pre_kept
        · rintro ρ wr ⟨hg, hn, hc, hf, hgl⟩
          simp only [Need, fat, List.nil_append, List.cons_append, List.getD_cons_zero, List.getD_cons_succ, Fct.hold, and_true] at hn
          refine ⟨by simp [wantP, hn], ?_⟩
          simp [execOp, hn, hc, go_sem]
          exact rfl
        apply go_val pre_kept
        · rintro ρ wr ⟨hg, hn, hc, hf, hgl⟩
          simp only [Need, fat, List.nil_append, List.cons_append, List.getD_cons_zero, List.getD_cons_succ, Fct.hold, and_true] at hn
          refine ⟨by simp [wantP, hn], ?_⟩
          simp [execOp, hn, hc, go_sem]
          exact rfl
        apply go_val pre_kept
        · rintro ρ wr ⟨hg, hn, hc, hf, hgl⟩
          simp only [Need, fat, List.nil_append, List.cons_append, List.getD_cons_zero, List.getD_cons_succ, Fct.hold, and_true] at hn
          refine ⟨by simp [wantP, hn], ?_⟩
          simp [execOp, hn, hc, go_sem]
          exact rfl
        apply go_val (x := .bool true) pre_kept
        · rintro ρ wr ⟨hg, hn, hc, hf, hgl⟩
          simp only [Need, fat, List.nil_append, List.cons_append, List.getD_cons_zero, List.getD_cons_succ, Fct.hold, and_true] at hn
          refine ⟨by simp [wantP, hn], ?_⟩
          simp [execOp, hn, hc, go_sem, hgea2, hgea0]
        apply go_val pre_kept
        · rintro ρ wr ⟨hg, hn, hc, hf, hgl⟩
          simp only [Need, fat, List.nil_append, List.cons_append, List.getD_cons_zero, List.getD_cons_succ, Fct.hold, and_true] at hn
          refine ⟨by simp [wantP, hn], ?_⟩
          simp [execOp, hn, hc, go_sem]
          exact rfl
        refine go_not pre_kept ?_ ?_
        · rintro ρ wr ⟨hg, hn, hc, hf, hgl⟩
          simp only [Need, fat, List.nil_append, List.cons_append, List.getD_cons_zero, List.getD_cons_succ, Fct.hold, and_true] at hn
          simp [wantP, hn]
        refine go_not pre_kept ?_ ?_
        · rintro ρ wr ⟨hg, hn, hc, hf, hgl⟩
          simp only [Need, fat, List.nil_append, List.cons_append, List.getD_cons_zero, List.getD_cons_succ, Fct.hold, and_true] at hn
          simp [wantP, hn]
        refine go_not pre_kept ?_ ?_
        · rintro ρ wr ⟨hg, hn, hc, hf, hgl⟩
          simp only [Need, fat, List.nil_append, List.cons_append, List.getD_cons_zero, List.getD_cons_succ, Fct.hold, and_true] at hn
          simp [wantP, hn]
        refine go_not pre_kept ?_ ?_
        · rintro ρ wr ⟨hg, hn, hc, hf, hgl⟩
          simp only [Need, fat, List.nil_append, List.cons_append, List.getD_cons_zero, List.getD_cons_succ, Fct.hold, and_true] at hn
          simp [wantP, hn]
        refine go_not pre_kept ?_ ?_
        · rintro ρ wr ⟨hg, hn, hc, hf, hgl⟩
          simp only [Need, fat, List.nil_append, List.cons_append, List.getD_cons_zero, List.getD_cons_succ, Fct.hold, and_true] at hn
          simp [wantP, hn]
        refine go_not pre_kept ?_ ?_
        · rintro ρ wr ⟨hg, hn, hc, hf, hgl⟩
          simp only [Need, fat, List.nil_append, List.cons_append, List.getD_cons_zero, List.getD_cons_succ, Fct.hold, and_true] at hn
          simp [wantP, hn]
        refine go_not pre_kept ?_ ?_
        · rintro ρ wr ⟨hg, hn, hc, hf, hgl⟩
          simp only [Need, fat, List.nil_append, List.cons_append, List.getD_cons_zero, List.getD_cons_succ, Fct.hold, and_true] at hn
          simp [wantP, hn]
        refine go_not pre_kept ?_ ?_
        · rintro ρ wr ⟨hg, hn, hc, hf, hgl⟩
          simp only [Need, fat, List.nil_append, List.cons_append, List.getD_cons_zero, List.getD_cons_succ, Fct.hold, and_true] at hn
          simp [wantP, hn]
        refine go_not pre_kept ?_ ?_
        · rintro ρ wr ⟨hg, hn, hc, hf, hgl⟩
          simp only [Need, fat, List.nil_append, List.cons_append, List.getD_cons_zero, List.getD_cons_succ, Fct.hold, and_true] at hn
          simp [wantP, hn]
        apply go_val (x := .bool true) pre_kept
        · rintro ρ wr ⟨hg, hn, hc, hf, hgl⟩
          simp only [Need, fat, List.nil_append, List.cons_append, List.getD_cons_zero, List.getD_cons_succ, Fct.hold, and_true] at hn
          refine ⟨by simp [wantP, hn], ?_⟩
          simp [execOp, hn, hc, go_sem]
        apply go_val pre_kept
        · rintro ρ wr ⟨hg, hn, hc, hf, hgl⟩
          simp only [Need, fat, List.nil_append, List.cons_append, List.getD_cons_zero, List.getD_cons_succ, Fct.hold, and_true] at hn
          refine ⟨by simp [wantP, hn], ?_⟩
          simp [execOp, hn, hc, go_sem]
          exact rfl
        intro w3 hk3
        simp only [Post, List.nil_append, List.cons_append, Act.put, List.setIfInBounds_toArray, List.set_cons_zero, List.set_cons_succ]
        rename_i hK
        refine hK _ _ ?_
        clear hK
        replace HO := Lib.hid (HO.out.kept ((Kept.drew (Kept.refl _)).trans hk3))
        replace HK := Lib.hid (HK.out.trans ((Kept.drew (Kept.refl _)).trans hk3))
        replace CB := Lib.hid (((Kept.drew (Kept.refl _)).trans hk3).cell CB.out)
        clear hk3
        have hc := CB.out
        have HB1 := Lib.hid (blk_new w3 (.cells #[.int .i64 (b : Nat)] 3))
        have HO1 := Lib.hid (HO.out.kept ((Kept.refl _).alloc (.cells #[.int .i64 (b : Nat)] 3)))
        have HK1 := Lib.hid (HK.out.alloc (.cells #[.int .i64 (b : Nat)] 3))
        have HO0 := Lib.hid HO1.out.form
        obtain ⟨A0, cap0, rfl⟩ := HO0.out
        clear HO0
        go_wp2_with (at_builtin; refine wpList_push1 rfl _ _ 30 3 (.inl ⟨rfl, rfl⟩) rfl rfl HO1.out (.int .i64 (b : Nat)) rfl w3.heap.size rfl (by rw [blk_cell HB1.out]; rfl) (by rw [ints_len]; have := HOL.out; omega) HK1.out.size ?_; intro v8 w8 hraw hgr hown)
        have HKN := Lib.hid (HK1.out.grown hgr (fun b hb => (HO1.out.own b hb).1))
        have HON := Lib.hid hraw
        clear hraw hgr hown HO1 HK1 HB1 HO HK hc
        go_wp2_with fail
        go_roundw
        case rel => exact ⟨i, k + 1, out ++ [b], by go_num, by go_num, by omega, by omega, by have := HOL.out; simp; omega, by rw [← HRN.out]; simp, by simpa [ints] using HON.out, HKN.out⟩
        case measure => simp [intOf]; omega
      · have hgea : ¬ (i : Int) < xs.length := by omega
        have hgeb : ¬ (k : Int) < ys.length := by omega
        have e : out = R := by rw [← HR2.out, List.drop_eq_nil_of_le hgea0, List.drop_eq_nil_of_le (by omega), uni_nil, List.append_nil]
        subst e
        clear HR2 HA HB
        go_wp2_with fail
        go_ret
        exact ⟨_, rfl, HO.out.ls.weak fun k _ h => h.2, HK.out⟩
theorem union_any (Sa Sb : Nat → Prop) (u v : Value) (xs ys : List Nat) (w : World) (ha : Ls Sa w u (ints xs)) (hb : Ls Sb w v (ints ys)) (h1 : xs.length ≤ 1000) (h2 : ys.length ≤ 1000) : Calls Try.prog 33 #[u, v] w (UniSaid w.heap.size (uni xs ys) w) := by
  obtain ⟨A, ca, rfl⟩ := ha.form
  obtain ⟨B, cb, rfl⟩ := hb.form
  simp only [ints_len] at *
  exact union_go Sa Sb A B ca cb xs ys w ha hb h1 h2 (uni xs ys) (Lib.hid rfl)
end Go.Proofs.Ytdbffbdpofodmaa
