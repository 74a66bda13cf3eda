/-
  What the law RopeStays does.
-/
import Derived.Test.YtdobbindilibjaaAlive
import Derived.Test.YtdobbindilibjaaOpenR
set_option linter.unusedSimpArgs false
namespace Go.Proofs.Ytdobbindilibjaa
open Go Go.RowKit Kit
theorem slall (b : List UInt8) : (b.take (max (max 0 (min (0 : Int) b.length)) (min (b.length : Int) b.length)).toNat).drop (max 0 (min (0 : Int) b.length)).toNat = b := by
  rw [show (max 0 (min (0 : Int) b.length)).toNat = 0 from by omega, show (max (max 0 (min (0 : Int) b.length)) (min (b.length : Int) b.length)).toNat = b.length from by omega, List.drop_zero, List.take_of_length_le (Nat.le_refl _)]
theorem doL_le (b : List UInt8) (at' del : Int) (l : List UInt8) : (doL b at' del l).length ≤ b.length + l.length := by
  unfold doL
  have h := cutI_bd at' b.length
  have h2 := h.2 (by omega)
  have h3 := cutI_bd del (b.length - cutI at' b.length)
  have h4 := h3.2 (by omega)
  simp only [List.length_append, List.length_take, List.length_drop]
  omega
set_option maxHeartbeats 4000000 in
theorem stays_in (b : List UInt8) (l : List (Int × Int × List UInt8)) (v1 v2 : Value) (w : World) (h1 : Bs w v1 b) (h2 : Sps w v2 l) (hb : b.length ≤ 2000) (hl : l.length ≤ 30) : Calls Try.prog 4 #[v1, v2] w fun e w' => e = .returned (.bool true) ∧ Kept w w' := by
  have H1 := Lib.hid h1
  obtain ⟨A1, c1, rfl⟩ := h1.form
  obtain ⟨A2, c2, rfl, -, -, hel⟩ := h2
  have HEL := Lib.hid hel
  clear h1 hel
  have x1 : ¬ (b.length : Int) > 2000 := by omega
  have x2 : ¬ (l.length : Int) > 30 := by omega
  go_enter Try.func4, Try.ntmps4
  go_wp2_with fail
  refine (alive_any w).mono ?_
  rintro e w1 ⟨rfl, k1⟩
  have K1 := Lib.hid k1
  clear k1
  go_wp2_with fail
  refine (new_any b (by omega) _ w1 (H1.out.keep K1.out)).mono ?_
  rintro e w2 ⟨u, m, rfl, h2, hm, k2⟩
  have H2 := Lib.hid h2
  obtain ⟨g, root, rfl, -⟩ := h2
  have K2 := Lib.hid (And.intro (K1.out.trans k2) (Nat.le_trans K1.out.size hm))
  clear hm k2 K1
  unfold ptr at *
  go_wp2_with fail
  go_loopw [7] (fun i W => ∃ (j : Nat), i = .int .i64 (j : Int) ∧ j ≤ l.length ∧ Rp W (.pointer (some ⟨g, 0, none⟩)) b m ∧ Kept w W) (fun i _ => l.length - (intOf i).toNat)
  case atStart => exact ⟨0, rfl, Nat.zero_le _, H2.out, K2.out.1⟩
  case round =>
    obtain ⟨j, rfl, hj, hrp, hkw⟩ := hrel
    have HR := Lib.hid (And.intro hrp hkw)
    clear hkw hrp
    by_cases hlt : j < l.length
    · have y1 : (j : Int) < l.length := by omega
      obtain ⟨⟨at', del, ins⟩, hz⟩ : ∃ z, l[j]? = some z := ⟨_, List.getElem?_eq_getElem hlt⟩
      obtain ⟨ad, rfl, hsp⟩ := HEL.out j _ hz
      obtain ⟨B, o, eB, f0, f1, s3, f2, hbs⟩ := hsp
      obtain ⟨A3, c3, rfl⟩ := hbs.form
      have HBW := Lib.hid hbs
      have HBS := Lib.hid (hbs.keep HR.out.2)
      simp only at f0 f1 f2
      have HF := Lib.hid (And.intro f0 (And.intro f1 f2))
      have e0 := HR.out.2.cell f0
      have e1 := HR.out.2.cell f1
      have e2 := HR.out.2.cell f2
      clear hz hbs f0 f1 f2
      have q0 : (0 : Int) ≤ j := by omega
      by_cases h500 : ins.length ≤ 500
      · have y2 : ¬ (ins.length : Int) > 500 := by omega
        go_wp2_with fail
        refine (Splice_any _ b m at' del _ ins wr HR.out.1 HBS.out (by omega) (by omega)).mono ?_
        rintro e w3 ⟨u3, rfl, h3, k3⟩
        have hT := doL_le b at' del ins
        generalize hTe : doL b at' del ins = T at *
        have HT := Lib.hid (And.intro (by omega : T.length ≤ 2500) hTe)
        have HX := Lib.hid h3
        have HXR := Lib.hid (HR.out.1.gm k3)
        have K3 := Lib.hid (HR.out.2.above k3 K2.out.2)
        have HX2 := Lib.hid (And.intro (H1.out.keep K3.out) (HBW.out.keep K3.out))
        obtain ⟨g3, root3, rfl, -⟩ := h3
        have HL := Lib.hid (And.intro hb h500)
        clear e0 e1 e2 k3 hTe hT
        have e0 := K3.out.cell HF.out.1
        have e1 := K3.out.cell HF.out.2.1
        have e2 := K3.out.cell HF.out.2.2
        unfold ptr
        go_wp2_with fail
        refine wp_region_go Kept pre_kept [([(8, none)], none), ([(46, some 0)], none), ([(47, some 1)], none), ([(8, none), (48, some 2)], some (48, false)), ([(8, none), (48, some 2)], some (48, false)), ([(50, some 4), (48, some 2)], some (48, false)), ([(49, some 3), (51, some 5), (48, some 2)], some (48, false)), ([(52, some 6), (48, some 2)], some (48, false)), ([(0, none), (48, some 2)], some (48, false)), ([(1, none), (48, some 2)], some (48, false)), ([(7, none), (48, some 2)], some (48, false)), ([(55, some 9), (56, some 10), (48, some 2)], some (48, false)), ([(57, some 11), (48, some 2)], some (48, false)), ([(54, some 8), (58, some 12), (48, some 2)], some (48, false)), ([(59, some 13), (48, some 2)], some (48, false)), ([(53, some 7), (60, some 14), (48, some 2)], some (48, false)), ([(48, some 2), (61, some 15)], none), ([(62, some 16)], none), ([(6, none), (63, some 17)], some (63, false)), ([(6, none), (63, some 17)], some (63, false)), ([(65, some 19), (63, some 17)], some (63, false)), ([(64, some 18), (66, some 20), (63, some 17)], some (63, false)), ([(67, some 21), (63, some 17)], some (63, false)), ([(0, none), (63, some 17)], some (63, false)), ([(69, some 23), (63, some 17)], some (63, false)), ([(68, some 22), (70, some 24), (63, some 17)], some (63, false)), ([(63, some 17), (71, some 25)], none)] (by kernel_rfl) 73 rfl (by kernel_rfl) (by kernel_rfl) ?_
        apply go_val pre_kept
        · rintro ρ wr ⟨hg, hn, hc, hf, hgl⟩
          simp only [Need, fat, List.nil_append, List.cons_append, List.getD_cons_zero, List.getD_cons_succ, Fct.hold, and_true] at hn
          refine ⟨by simp [wantP, hn], ?_⟩
          simp [execOp, hn, hc, go_sem]
          exact rfl
        apply go_val pre_kept
        · rintro ρ wr ⟨hg, hn, hc, hf, hgl⟩
          simp only [Need, fat, List.nil_append, List.cons_append, List.getD_cons_zero, List.getD_cons_succ, Fct.hold, and_true] at hn
          refine ⟨by simp [wantP, hn], ?_⟩
          simp [execOp, hn, hc, go_sem]
          exact rfl
        apply go_val pre_kept
        · rintro ρ wr ⟨hg, hn, hc, hf, hgl⟩
          simp only [Need, fat, List.nil_append, List.cons_append, List.getD_cons_zero, List.getD_cons_succ, Fct.hold, and_true] at hn
          refine ⟨by simp [wantP, hn], ?_⟩
          simp [execOp, hn, hc, go_sem]
          exact rfl
        apply go_val pre_kept
        · rintro ρ wr ⟨hg, hn, hc, hf, hgl⟩
          simp only [Need, fat, List.nil_append, List.cons_append, List.getD_cons_zero, List.getD_cons_succ, Fct.hold, and_true] at hn
          refine ⟨by simp [wantP, hn], ?_⟩
          simp [execOp, hn, hc, go_sem]
          exact rfl
        apply go_val pre_kept
        · rintro ρ wr ⟨hg, hn, hc, hf, hgl⟩
          simp only [Need, fat, List.nil_append, List.cons_append, List.getD_cons_zero, List.getD_cons_succ, Fct.hold, and_true] at hn
          refine ⟨by simp [wantP, hn], ?_⟩
          simp [execOp, hn, hc, go_sem]
          exact rfl
        apply go_callv (x := .int .i64 T.length)
        · rintro ρ wr ⟨hg, hn, hc, hf, hgl⟩
          simp only [Need, fat, List.nil_append, List.cons_append, List.getD_cons_zero, List.getD_cons_succ, Fct.hold, and_true] at hn
          refine ⟨by simp [wantP, hn], _, _, by simp [execOp, hn, hf, hc, resolve, invoke, go_sem]; exact ⟨rfl, rfl⟩, ?_⟩
          exact (Len_any _ T m wr (HX.out.kept ((Kept.drew (Kept.refl _)).trans hg))).mono fun e w' ⟨h1, h2⟩ => ⟨_, h1, rfl, by rw [h2]; exact Kept.refl _⟩
        refine go_call (p := fun u w' => Bs w' u T) (fun _ _ _ h k => k.keep h) ?_ ?_
        · rintro ρ wr ⟨hg, hn, hc, hf, hgl⟩
          simp only [Need, fat, List.nil_append, List.cons_append, List.getD_cons_zero, List.getD_cons_succ, Fct.hold, and_true] at hn
          refine ⟨by simp [wantP, hn], _, _, by simp [execOp, hn, hf, hc, resolve, invoke, go_sem]; exact ⟨rfl, rfl⟩, ?_⟩
          exact (Slice_any _ T m 0 T.length wr (HX.out.kept ((Kept.drew (Kept.refl _)).trans hg)) (by have := HT.out; omega)).mono fun e w' ⟨u, h1, h2, h3⟩ => ⟨u, h1, by rw [slall T] at h2; exact h2, h3⟩
        apply go_val (x := .string ⟨(T).toArray⟩) pre_kept
        · rintro ρ wr ⟨hg, hn, hc, hf, hgl⟩
          simp only [Need, fat, List.nil_append, List.cons_append, List.getD_cons_zero, List.getD_cons_succ, Fct.hold, and_true] at hn
          refine ⟨by simp [wantP, hn.2], ?_⟩
          have hq := Bs.str (P := Try.prog) hn.1 22 9 5 Try.underlying22 Try.underlying5 Try.underlying9
          simp only [execOp]
          simp [hq, go_sem]
        apply go_val pre_kept
        · rintro ρ wr ⟨hg, hn, hc, hf, hgl⟩
          simp only [Need, fat, List.nil_append, List.cons_append, List.getD_cons_zero, List.getD_cons_succ, Fct.hold, and_true] at hn
          refine ⟨by simp [wantP, hn], ?_⟩
          simp [execOp, hn, hc, go_sem]
          exact rfl
        apply go_val pre_kept
        · rintro ρ wr ⟨hg, hn, hc, hf, hgl⟩
          simp only [Need, fat, List.nil_append, List.cons_append, List.getD_cons_zero, List.getD_cons_succ, Fct.hold, and_true] at hn
          refine ⟨by simp [wantP, hn], ?_⟩
          simp [execOp, hn, hc, go_sem]
          exact rfl
        apply go_val pre_kept
        · rintro ρ wr ⟨hg, hn, hc, hf, hgl⟩
          simp only [Need, fat, List.nil_append, List.cons_append, List.getD_cons_zero, List.getD_cons_succ, Fct.hold, and_true] at hn
          refine ⟨by simp [wantP, hn], ?_⟩
          simp [execOp, hn, hc, go_sem]
          exact rfl
        apply go_val (x := .pointer (some ⟨B, o, none⟩)) pre_kept
        · rintro ρ wr ⟨hg, hn, hc, hf, hgl⟩
          simp only [Need, fat, List.nil_append, List.cons_append, List.getD_cons_zero, List.getD_cons_succ, Fct.hold, and_true] at hn
          refine ⟨by simp [wantP, hn], ?_⟩
          obtain ⟨n1, n2, n3⟩ := hn
          unfold execOp
          go_simp
        apply go_val (x := .agg #[.int .i64 at', .int .i64 del, .slice A3 ins.length c3]) pre_kept
        · rintro ρ wr ⟨hg, hn, hc, hf, hgl⟩
          simp only [Need, fat, List.nil_append, List.cons_append, List.getD_cons_zero, List.getD_cons_succ, Fct.hold, and_true] at hn
          refine ⟨by simp [wantP, hn], ?_⟩
          have hl := And.intro (hg.cell e0) (And.intro (hg.cell e1) (hg.cell e2))
          simp [execOp, hn, hc, hl, go_sem]
        refine go_call (p := fun u w' => Bs w' u T) (fun _ _ _ h k => k.keep h) ?_ ?_
        · rintro ρ wr ⟨hg, hn, hc, hf, hgl⟩
          simp only [Need, fat, List.nil_append, List.cons_append, List.getD_cons_zero, List.getD_cons_succ, Fct.hold, and_true] at hn
          refine ⟨by simp [wantP, hn], _, _, by simp [execOp, hn, hf, hc, resolve, invoke, go_sem]; exact ⟨rfl, rfl⟩, ?_⟩
          exact (refdo_any _ _ _ at' del _ b ins wr (HX2.out.1.keep ((Kept.drew (Kept.refl _)).trans hg)) (HX2.out.2.keep ((Kept.drew (Kept.refl _)).trans hg)) (by have := HL.out; omega) (by have := HL.out; omega)).mono fun e w' ⟨u, h1, h2, h3⟩ => ⟨u, h1, by rw [← HT.out.2]; exact h2, h3⟩
        apply go_val (x := .string ⟨(T).toArray⟩) pre_kept
        · rintro ρ wr ⟨hg, hn, hc, hf, hgl⟩
          simp only [Need, fat, List.nil_append, List.cons_append, List.getD_cons_zero, List.getD_cons_succ, Fct.hold, and_true] at hn
          refine ⟨by simp [wantP, hn.2], ?_⟩
          have hq := Bs.str (P := Try.prog) hn.1 22 9 5 Try.underlying22 Try.underlying5 Try.underlying9
          simp only [execOp]
          simp [hq, go_sem]
        apply go_val (x := .bool false) pre_kept
        · rintro ρ wr ⟨hg, hn, hc, hf, hgl⟩
          simp only [Need, fat, List.nil_append, List.cons_append, List.getD_cons_zero, List.getD_cons_succ, Fct.hold, and_true] at hn
          refine ⟨by simp [wantP, hn], ?_⟩
          simp [execOp, hn, hc, go_sem]
        apply go_val (x := .bool false) pre_kept
        · rintro ρ wr ⟨hg, hn, hc, hf, hgl⟩
          simp only [Need, fat, List.nil_append, List.cons_append, List.getD_cons_zero, List.getD_cons_succ, Fct.hold, and_true] at hn
          refine ⟨by simp [wantP, hn], ?_⟩
          simp [execOp, hn, hc, go_sem]
        apply go_val pre_kept
        · rintro ρ wr ⟨hg, hn, hc, hf, hgl⟩
          simp only [Need, fat, List.nil_append, List.cons_append, List.getD_cons_zero, List.getD_cons_succ, Fct.hold, and_true] at hn
          refine ⟨by simp [wantP, hn], ?_⟩
          simp [execOp, hn, hc, go_sem]
          exact rfl
        apply go_val pre_kept
        · rintro ρ wr ⟨hg, hn, hc, hf, hgl⟩
          simp only [Need, fat, List.nil_append, List.cons_append, List.getD_cons_zero, List.getD_cons_succ, Fct.hold, and_true] at hn
          refine ⟨by simp [wantP, hn], ?_⟩
          simp [execOp, hn, hc, go_sem]
          exact rfl
        apply go_val pre_kept
        · rintro ρ wr ⟨hg, hn, hc, hf, hgl⟩
          simp only [Need, fat, List.nil_append, List.cons_append, List.getD_cons_zero, List.getD_cons_succ, Fct.hold, and_true] at hn
          refine ⟨by simp [wantP, hn], ?_⟩
          simp [execOp, hn, hc, go_sem]
          exact rfl
        apply go_callv (x := .int .i64 b.length)
        · rintro ρ wr ⟨hg, hn, hc, hf, hgl⟩
          simp only [Need, fat, List.nil_append, List.cons_append, List.getD_cons_zero, List.getD_cons_succ, Fct.hold, and_true] at hn
          refine ⟨by simp [wantP, hn], _, _, by simp [execOp, hn, hf, hc, resolve, invoke, go_sem]; exact ⟨rfl, rfl⟩, ?_⟩
          exact (Len_any _ b m wr (HXR.out.kept ((Kept.drew (Kept.refl _)).trans hg))).mono fun e w' ⟨h1, h2⟩ => ⟨_, h1, rfl, by rw [h2]; exact Kept.refl _⟩
        refine go_call (p := fun u w' => Bs w' u b) (fun _ _ _ h k => k.keep h) ?_ ?_
        · rintro ρ wr ⟨hg, hn, hc, hf, hgl⟩
          simp only [Need, fat, List.nil_append, List.cons_append, List.getD_cons_zero, List.getD_cons_succ, Fct.hold, and_true] at hn
          refine ⟨by simp [wantP, hn], _, _, by simp [execOp, hn, hf, hc, resolve, invoke, go_sem]; exact ⟨rfl, rfl⟩, ?_⟩
          exact (Slice_any _ b m 0 b.length wr (HXR.out.kept ((Kept.drew (Kept.refl _)).trans hg)) (by have := HL.out; omega)).mono fun e w' ⟨u, h1, h2, h3⟩ => ⟨u, h1, by rw [slall b] at h2; exact h2, h3⟩
        apply go_val (x := .string ⟨(b).toArray⟩) pre_kept
        · rintro ρ wr ⟨hg, hn, hc, hf, hgl⟩
          simp only [Need, fat, List.nil_append, List.cons_append, List.getD_cons_zero, List.getD_cons_succ, Fct.hold, and_true] at hn
          refine ⟨by simp [wantP, hn.2], ?_⟩
          have hq := Bs.str (P := Try.prog) hn.1 22 9 5 Try.underlying22 Try.underlying5 Try.underlying9
          simp only [execOp]
          simp [hq, go_sem]
        apply go_val pre_kept
        · rintro ρ wr ⟨hg, hn, hc, hf, hgl⟩
          simp only [Need, fat, List.nil_append, List.cons_append, List.getD_cons_zero, List.getD_cons_succ, Fct.hold, and_true] at hn
          refine ⟨by simp [wantP, hn], ?_⟩
          simp [execOp, hn, hc, go_sem]
          exact rfl
        apply go_val (x := .string ⟨(b).toArray⟩) pre_kept
        · rintro ρ wr ⟨hg, hn, hc, hf, hgl⟩
          simp only [Need, fat, List.nil_append, List.cons_append, List.getD_cons_zero, List.getD_cons_succ, Fct.hold, and_true] at hn
          refine ⟨by simp [wantP, hn], ?_⟩
          have hq := Bs.str (P := Try.prog) (HX2.out.1.keep ((Kept.drew (Kept.refl _)).trans hg)) 22 9 5 Try.underlying22 Try.underlying5 Try.underlying9
          simp only [execOp]
          simp [hn, hq, go_sem]
        apply go_val (x := .bool false) pre_kept
        · rintro ρ wr ⟨hg, hn, hc, hf, hgl⟩
          simp only [Need, fat, List.nil_append, List.cons_append, List.getD_cons_zero, List.getD_cons_succ, Fct.hold, and_true] at hn
          refine ⟨by simp [wantP, hn], ?_⟩
          simp [execOp, hn, hc, go_sem]
        apply go_val (x := .bool false) pre_kept
        · rintro ρ wr ⟨hg, hn, hc, hf, hgl⟩
          simp only [Need, fat, List.nil_append, List.cons_append, List.getD_cons_zero, List.getD_cons_succ, Fct.hold, and_true] at hn
          refine ⟨by simp [wantP, hn], ?_⟩
          simp [execOp, hn, hc, go_sem]
        intro w2 hk2
        simp only [Post, List.nil_append, List.cons_append, Act.put, List.setIfInBounds_toArray, List.set_cons_zero, List.set_cons_succ]
        intro u45 h45 u51 h51 u61 h61
        clear h45 h51 h61
        rename_i K hK
        refine hK _ _ ?_
        clear hK K
        have K4 := Lib.hid (And.intro (HXR.out.kept ((Kept.drew (Kept.refl _)).trans hk2)) (K3.out.trans ((Kept.drew (Kept.refl _)).trans hk2)))
        clear hk2 e0 e1 e2
        go_wp2_with fail
        go_roundw
        case rel => exact ⟨j + 1, by go_num, by omega, K4.out.1, K4.out.2⟩
        case measure => simp [intOf]; omega
      · have y2 : (ins.length : Int) > 500 := by omega
        go_wp2_with fail
        go_ret
        exact ⟨rfl, HR.out.2⟩
    · have y1 : ¬ (j : Int) < l.length := by omega
      go_wp2_with fail
      go_ret
      exact ⟨rfl, HR.out.2⟩
theorem stays_any (b : List UInt8) (l : List (Int × Int × List UInt8)) (v1 v2 : Value) (w : World) (h1 : Bs w v1 b) (h2 : Sps w v2 l) : Calls Try.prog 4 #[v1, v2] w fun e w' => e = .returned (.bool true) ∧ Kept w w' := by
  by_cases h : b.length ≤ 2000 ∧ l.length ≤ 30
  · exact stays_in b l v1 v2 w h1 h2 h.1 h.2
  · obtain ⟨A1, c1, rfl⟩ := h1.form
    obtain ⟨A2, c2, rfl, -⟩ := h2
    clear h1
    by_cases h0 : b.length > 2000
    · have x1 : (b.length : Int) > 2000 := by omega
      clear h
      go_enter Try.func4, Try.ntmps4
      go_wp2_with fail
      refine (alive_any w).mono ?_
      rintro e w1 ⟨rfl, k1⟩
      have K1 := Lib.hid k1
      clear k1
      go_wp2_with fail
      go_ret
      exact ⟨rfl, K1.out⟩
    · have x1 : ¬ (b.length : Int) > 2000 := by omega
      have x2 : (l.length : Int) > 30 := by omega
      clear h
      go_enter Try.func4, Try.ntmps4
      go_wp2_with fail
      refine (alive_any w).mono ?_
      rintro e w1 ⟨rfl, k1⟩
      have K1 := Lib.hid k1
      clear k1
      go_wp2_with fail
      go_ret
      exact ⟨rfl, K1.out⟩
end Go.Proofs.Ytdobbindilibjaa
