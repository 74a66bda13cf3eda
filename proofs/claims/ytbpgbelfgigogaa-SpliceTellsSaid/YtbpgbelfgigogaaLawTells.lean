/-
  What the law SpliceTells does, on values and memory.
-/
import Derived.Test.YtbpgbelfgigogaaRef2
set_option linter.unusedSimpArgs false
namespace Go.Proofs.Ytbpgbelfgigogaa
open Go Go.RowKit Kit

set_option maxHeartbeats 8000000 in
set_option maxRecDepth 100000 in
theorem lawTells_any (A : Option Addr) (k c : Nat) (at' del n x : Int) (v : Value) (b l : List UInt8) (w : World) (hb : Bs w (.slice A k c) b) (hv : Bs w v l) (hn : -9223372036854775808 ≤ n) (hn' : n ≤ 9223372036854775807) :
    Calls Try.prog 3 #[.slice A k c, .agg #[.int .i64 at', .int .i64 del, v], .int .i64 n, .int .i64 x] w fun e w' => e = .returned (.bool true) ∧ Kept w w' := by
  obtain ⟨A1, c1, rfl⟩ := hv.form
  obtain ⟨hk, hnc, hcm⟩ := hb.len
  subst hk
  by_cases hbig : b.length ≤ 1000
  case neg =>
    have hbig' : ¬ (b.length : Int) ≤ 1000 := by omega
    have HB := Lib.hid hb
    have HV := Lib.hid hv
    clear hb hv
    go_enter Try.func3, Try.ntmps3
    go_wp2_with fail
    refine (alive_any _).mono ?_
    rintro e w1 ⟨rfl, hk1⟩
    go_wp2_with fail
    go_ret
    exact ⟨rfl, ((Kept.refl _).alloc _).trans hk1⟩
  by_cases hbig2 : l.length ≤ 1000
  case neg =>
    have hbig' : ¬ (l.length : Int) ≤ 1000 := by omega
    have HB := Lib.hid hb
    have HV := Lib.hid hv
    clear hb hv
    go_enter Try.func3, Try.ntmps3
    go_wp2_with fail
    refine (alive_any _).mono ?_
    rintro e w1 ⟨rfl, hk1⟩
    obtain ⟨⟨hc0, hc1, hc2⟩, _⟩ := box3 (Kept.blk hk1 (blk_new w _))
    go_wp2_with fail
    go_ret
    exact ⟨rfl, ((Kept.refl _).alloc _).trans hk1⟩
  have HB := Lib.hid hb
  have HV := Lib.hid hv
  clear hb hv
  obtain ⟨p, d, m1, m2, q, R, mid, HC9, HC10, HD11, HD12, HM13, HM14, HN13, HN14, HB15, HB16⟩ : ∃ (p d m1 m2 q : Int) (R mid : List UInt8),
      (∀ wr : World, Bs wr (.slice A1 l.length c1) l → Calls Try.prog 9 #[.int .i64 n, .agg #[.int .i64 at', .int .i64 del, .slice A1 l.length c1]] wr fun e w' => ∃ v', e = .returned (.agg #[.int .i64 p, .int .i64 d, v']) ∧ Bs w' v' l ∧ Kept wr w') ∧
      (∀ wr : World, Bs wr (.slice A1 l.length c1) l → Calls Try.prog 10 #[.int .i64 n, .agg #[.int .i64 at', .int .i64 del, .slice A1 l.length c1]] wr fun e w' => ∃ v', e = .returned (.agg #[.int .i64 p, .int .i64 d, v']) ∧ Bs w' v' l ∧ Kept wr w') ∧
      (∀ (wr : World) (A' : Option Addr) (c' : Nat), Bs wr (.slice A' b.length c') b → Bs wr (.slice A1 l.length c1) l → Calls Try.prog 11 #[.slice A' b.length c', .agg #[.int .i64 at', .int .i64 del, .slice A1 l.length c1]] wr fun e w' => ∃ v', e = .returned v' ∧ Bs w' v' R ∧ Kept wr w') ∧
      (∀ (wr : World) (A' : Option Addr) (c' : Nat), Bs wr (.slice A' b.length c') b → Bs wr (.slice A1 l.length c1) l → Calls Try.prog 12 #[.slice A' b.length c', .agg #[.int .i64 at', .int .i64 del, .slice A1 l.length c1]] wr fun e w' => ∃ v', e = .returned v' ∧ Bs w' v' R ∧ Kept wr w') ∧
      (∀ wr : World, Bs wr (.slice A1 l.length c1) l → Calls Try.prog 13 #[.int .i64 n, .agg #[.int .i64 at', .int .i64 del, .slice A1 l.length c1], .int .i64 x] wr fun e w' => e = .returned (.int .i64 m1) ∧ Kept wr w') ∧
      (∀ wr : World, Bs wr (.slice A1 l.length c1) l → Calls Try.prog 14 #[.int .i64 n, .agg #[.int .i64 at', .int .i64 del, .slice A1 l.length c1], .int .i64 x] wr fun e w' => e = .returned (.int .i64 m1) ∧ Kept wr w') ∧
      (∀ wr : World, Bs wr (.slice A1 l.length c1) l → Calls Try.prog 13 #[.int .i64 b.length, .agg #[.int .i64 at', .int .i64 del, .slice A1 l.length c1], .int .i64 x] wr fun e w' => e = .returned (.int .i64 m2) ∧ Kept wr w') ∧
      (∀ wr : World, Bs wr (.slice A1 l.length c1) l → Calls Try.prog 14 #[.int .i64 b.length, .agg #[.int .i64 at', .int .i64 del, .slice A1 l.length c1], .int .i64 x] wr fun e w' => e = .returned (.int .i64 m2) ∧ Kept wr w') ∧
      (∀ (wr : World) (A' : Option Addr) (c' : Nat), Bs wr (.slice A' b.length c') b → Bs wr (.slice A1 l.length c1) l → Calls Try.prog 15 #[.slice A' b.length c', .agg #[.int .i64 at', .int .i64 del, .slice A1 l.length c1]] wr fun e w' => ∃ v', e = .returned (.agg #[.int .i64 q, .int .i64 l.length, v']) ∧ Bs w' v' mid ∧ Kept wr w') ∧
      (∀ (wr : World) (A' : Option Addr) (c' : Nat), Bs wr (.slice A' b.length c') b → Bs wr (.slice A1 l.length c1) l → Calls Try.prog 16 #[.slice A' b.length c', .agg #[.int .i64 at', .int .i64 del, .slice A1 l.length c1]] wr fun e w' => ∃ v', e = .returned (.agg #[.int .i64 q, .int .i64 l.length, v']) ∧ Bs w' v' mid ∧ Kept wr w') :=
    ⟨_, _, _, _, _, _, _, fun wr h => clamp_any n at' del _ l wr hn hn' h (by omega), fun wr h => refclamp_any n at' del _ l wr hn hn' h (by omega),
      fun wr A' c' h h' => do_any A' b.length c' at' del _ b l wr h h' (by omega) (by omega), fun wr A' c' h h' => refdo_any A' b.length c' at' del _ b l wr h h' (by omega) (by omega),
      fun wr h => map_any n at' del x _ l wr hn hn' h, fun wr h => refmap_any n at' del x _ l wr hn' h (by omega),
      fun wr h => map_any b.length at' del x _ l wr (by omega) (by omega) h, fun wr h => refmap_any b.length at' del x _ l wr (by omega) h (by omega),
      fun wr A' c' h h' => back_any A' b.length c' at' del _ b l wr h h' (by omega), fun wr A' c' h h' => refback_any A' b.length c' at' del _ b l wr h h' (by omega) (by omega)⟩
  obtain ⟨i0, hi, hz0, hz1, hz2⟩ := info_parts info5
  go_enter Try.func3, Try.ntmps3
  go_wp2_with fail
  refine (alive_any _).mono ?_
  rintro e w1 ⟨rfl, hk1⟩
  obtain ⟨⟨hc0, hc1, hc2⟩, _⟩ := box3 (Kept.blk hk1 (blk_new w _))
  have hkw1 : Kept w w1 := ((Kept.refl _).alloc _).trans hk1
  go_wp2_with (at_builtin; refine wpList_fresh _ rfl _ _ _ rfl 5 i0 _ Try.underlying22 hi hz0 hz1 hz2 rfl rfl _ b rfl (HB.out.keep hkw1) (by omega) ?_; intro v2 w2 hb2 hk2; obtain ⟨A2, c2, rfl⟩ := hb2.form; have HX := Lib.hid hb2; clear hb2)
  clear hi hz0 hz1 hz2
  have hkf : Kept w w2 := hkw1.trans hk2
  have hW5 := Kept.blk hk2 (Kept.blk hk1 (blk_new w _))
  generalize w2 = W at *
  refine wp_abs (fun a => a.tmps.size = 86 ∧ a.defers = [] ∧ a.eval (.tmp 0) = .slice A b.length c ∧ a.eval (.tmp 2) = .int .i64 n ∧ a.eval (.tmp 3) = .int .i64 x ∧ a.eval (.tmp 5) = .pointer (some ⟨w.heap.size, 0, none⟩) ∧ a.eval (.tmp 10) = .slice A2 b.length c2) ⟨rfl, rfl, rfl, rfl, rfl, rfl, rfl⟩ ?_
  rintro a0 ⟨hsz, hdef, h0, h2, h3, h5, h10⟩
  have hkW : ∀ wr, W.drew.grownBy wr none → Kept W wr := fun wr hg => (Kept.drew (Kept.refl _)).trans (Kept.of_grown hg)
  have HBX : ∀ wr, W.drew.grownBy wr none → Bs wr (.slice A2 b.length c2) b := fun wr hg => HX.out.keep (hkW wr hg)
  have HBW : ∀ wr, W.drew.grownBy wr none → Bs wr (.slice A b.length c) b := fun wr hg => HB.out.keep (hkf.trans (hkW wr hg))
  have HBV : ∀ wr, W.drew.grownBy wr none → Bs wr (.slice A1 l.length c1) l := fun wr hg => HV.out.keep (hkf.trans (hkW wr hg))
  have L5 : ∀ wr, W.drew.grownBy wr none → wr.cell? ⟨w.heap.size, 0, none⟩ = some (.int .i64 at') ∧ wr.cell? ⟨w.heap.size, 1, none⟩ = some (.int .i64 del) ∧ wr.cell? ⟨w.heap.size, 2, none⟩ = some (.slice A1 l.length c1) := fun wr hg => (box3 (Kept.blk (hkW wr hg) hW5)).1
  clear hkW hW5 hc0 hc1 hc2 hk1 hk2 hkw1 HX HB HV
  refine wp_region_plan none (vat [isv (.int .i64 n),
      isv (.agg #[.int .i64 at', .int .i64 del, .slice A1 l.length c1]),
      fun u w' => ∃ A3 c3, u = .agg #[.int .i64 p, .int .i64 d, .slice A3 l.length c3] ∧ Bs w' (.slice A3 l.length c3) l,
      isv (.int .i64 n),
      isv (.agg #[.int .i64 at', .int .i64 del, .slice A1 l.length c1]),
      fun u w' => ∃ A3 c3, u = .agg #[.int .i64 p, .int .i64 d, .slice A3 l.length c3] ∧ Bs w' (.slice A3 l.length c3) l,
      isv (.bool true),
      isv (.bool true),
      isv (.slice A2 b.length c2),
      isv (.agg #[.int .i64 at', .int .i64 del, .slice A1 l.length c1]),
      fun u w' => Bs w' u R,
      isv (.string ⟨R.toArray⟩),
      isv (.slice A b.length c),
      isv (.agg #[.int .i64 at', .int .i64 del, .slice A1 l.length c1]),
      fun u w' => Bs w' u R,
      isv (.string ⟨R.toArray⟩),
      isv (.bool true),
      isv (.bool true),
      isv (.bool true),
      isv (.int .i64 n),
      isv (.agg #[.int .i64 at', .int .i64 del, .slice A1 l.length c1]),
      isv (.int .i64 x),
      isv (.int .i64 m1),
      isv (.int .i64 n),
      isv (.agg #[.int .i64 at', .int .i64 del, .slice A1 l.length c1]),
      isv (.int .i64 x),
      isv (.int .i64 m1),
      isv (.bool true),
      isv (.bool true),
      isv (.bool true),
      isv (.slice A b.length c),
      isv (.int .i64 b.length),
      isv (.agg #[.int .i64 at', .int .i64 del, .slice A1 l.length c1]),
      isv (.int .i64 x),
      isv (.int .i64 m2),
      isv (.slice A b.length c),
      isv (.int .i64 b.length),
      isv (.agg #[.int .i64 at', .int .i64 del, .slice A1 l.length c1]),
      isv (.int .i64 x),
      isv (.int .i64 m2),
      isv (.bool true),
      isv (.bool true),
      isv (.bool true),
      isv (.slice A2 b.length c2),
      isv (.agg #[.int .i64 at', .int .i64 del, .slice A1 l.length c1]),
      fun u w' => ∃ A3 c3, u = .agg #[.int .i64 q, .int .i64 l.length, .slice A3 mid.length c3] ∧ Bs w' (.slice A3 mid.length c3) mid,
      isv (.slice A b.length c),
      isv (.agg #[.int .i64 at', .int .i64 del, .slice A1 l.length c1]),
      fun u w' => ∃ A3 c3, u = .agg #[.int .i64 q, .int .i64 l.length, .slice A3 mid.length c3] ∧ Bs w' (.slice A3 mid.length c3) mid,
      isv (.bool true),
      isv (.bool true),
      isv (.bool true),
      isv (.slice A2 b.length c2),
      isv (.string ⟨b.toArray⟩),
      isv (.slice A b.length c),
      isv (.string ⟨b.toArray⟩),
      isv (.bool true),
      isv (.bool true)])
    (fun u w' => u = .bool true ∧ (World.drew W).grownBy w' none)
    [([(2, none)], none), ([(5, none)], none), ([(28, some 0), (29, some 1)], none), ([(2, none)], none), ([(5, none)], none), ([(31, some 3), (32, some 4)], none), ([(30, some 2), (33, some 5)], none), ([(34, some 6)], none), ([(10, none), (35, some 7)], some (35, true)), ([(5, none), (35, some 7)], some (35, true)), ([(36, some 8), (37, some 9), (35, some 7)], some (35, true)), ([(38, some 10), (35, some 7)], some (35, true)), ([(0, none), (35, some 7)], some (35, true)), ([(5, none), (35, some 7)], some (35, true)), ([(40, some 12), (41, some 13), (35, some 7)], some (35, true)), ([(42, some 14), (35, some 7)], some (35, true)), ([(39, some 11), (43, some 15), (35, some 7)], some (35, true)), ([(35, some 7), (44, some 16)], none), ([(45, some 17)], none), ([(2, none), (46, some 18)], some (46, true)), ([(5, none), (46, some 18)], some (46, true)), ([(3, none), (46, some 18)], some (46, true)), ([(47, some 19), (48, some 20), (49, some 21), (46, some 18)], some (46, true)), ([(2, none), (46, some 18)], some (46, true)), ([(5, none), (46, some 18)], some (46, true)), ([(3, none), (46, some 18)], some (46, true)), ([(51, some 23), (52, some 24), (53, some 25), (46, some 18)], some (46, true)), ([(50, some 22), (54, some 26), (46, some 18)], some (46, true)), ([(46, some 18), (55, some 27)], none), ([(56, some 28)], none), ([(0, none), (57, some 29)], some (57, true)), ([(58, some 30), (57, some 29)], some (57, true)), ([(5, none), (57, some 29)], some (57, true)), ([(3, none), (57, some 29)], some (57, true)), ([(59, some 31), (60, some 32), (61, some 33), (57, some 29)], some (57, true)), ([(0, none), (57, some 29)], some (57, true)), ([(63, some 35), (57, some 29)], some (57, true)), ([(5, none), (57, some 29)], some (57, true)), ([(3, none), (57, some 29)], some (57, true)), ([(64, some 36), (65, some 37), (66, some 38), (57, some 29)], some (57, true)), ([(62, some 34), (67, some 39), (57, some 29)], some (57, true)), ([(57, some 29), (68, some 40)], none), ([(69, some 41)], none), ([(10, none), (70, some 42)], some (70, true)), ([(5, none), (70, some 42)], some (70, true)), ([(71, some 43), (72, some 44), (70, some 42)], some (70, true)), ([(0, none), (70, some 42)], some (70, true)), ([(5, none), (70, some 42)], some (70, true)), ([(74, some 46), (75, some 47), (70, some 42)], some (70, true)), ([(73, some 45), (76, some 48), (70, some 42)], some (70, true)), ([(70, some 42), (77, some 49)], none), ([(78, some 50)], none), ([(10, none), (79, some 51)], some (79, true)), ([(80, some 52), (79, some 51)], some (79, true)), ([(0, none), (79, some 51)], some (79, true)), ([(82, some 54), (79, some 51)], some (79, true)), ([(81, some 53), (83, some 55), (79, some 51)], some (79, true)), ([(79, some 51), (84, some 56)], none), ([(85, some 57)], none)]
    (by kernel_rfl) 86 hsz (by kernel_rfl) (by kernel_rfl) (by decide) ?st ?steps ?fin
  case st =>
    refine stays_vat _ _ fun q hq => ?_
    simp only [List.mem_cons, List.not_mem_nil, or_false] at hq
    rcases hq with rfl | rfl | rfl | rfl | rfl | rfl | rfl | rfl | rfl | rfl | rfl | rfl | rfl | rfl | rfl | rfl | rfl | rfl | rfl | rfl | rfl | rfl | rfl | rfl | rfl | rfl | rfl | rfl | rfl | rfl | rfl | rfl | rfl | rfl | rfl | rfl | rfl | rfl | rfl | rfl | rfl | rfl | rfl | rfl | rfl | rfl | rfl | rfl | rfl | rfl | rfl | rfl | rfl | rfl | rfl | rfl | rfl | rfl
    all_goals first | exact stays_isv _ _ | (rintro u x y hg ⟨A3, c3, rfl, h⟩; exact ⟨A3, c3, rfl, h.keep (Kept.of_grown hg)⟩) | (intro u x y hg h; exact Bs.keep h (Kept.of_grown hg))
  case fin =>
    rintro a o u w' hL ho ⟨rfl, hg⟩
    simp at ho
    subst ho
    rename_i K hK
    exact hK _ _ (ret_slot (d := 8) rfl (Nat.lt_of_lt_of_eq (by decide : 8 < 86) (hL.tsize.trans hsz).symm) (hL.defers.trans hdef) ⟨rfl, hkf.trans ((Kept.drew (Kept.refl _)).trans (Kept.of_grown hg))⟩)
  case steps =>
    refine ⟨?_, ?_, ?_, ?_, ?_, ?_, ?_, ?_, ?_, ?_, ?_, ?_, ?_, ?_, ?_, ?_, ?_, ?_, ?_, ?_, ?_, ?_, ?_, ?_, ?_, ?_, ?_, ?_, ?_, ?_, ?_, ?_, ?_, ?_, ?_, ?_, ?_, ?_, ?_, ?_, ?_, ?_, ?_, ?_, ?_, ?_, ?_, ?_, ?_, ?_, ?_, ?_, ?_, ?_, ?_, ?_, ?_, ?_, ?_⟩
    all_goals
      intro ρ wr hg hn hc hf hgl
      simp only [Need, vat, List.getD_cons_zero, List.getD_cons_succ, isv, and_true, h0, h2, h3, h5, h10] at hn ⊢
    · simp [wantP, execOp, Ups, hn, hc, grown_refl, go_sem]
    · obtain ⟨q0, q1, q2⟩ := L5 wr hg
      simp only [wantP, if_true]
      unfold execOp
      go_simp
      exact ⟨rfl, grown_refl _ _⟩
    · obtain ⟨n1, n2⟩ := hn
      simp only [wantP, if_true]
      unfold execOp
      go_simp
      refine (HC9 wr (HBV wr hg)).mono ?_
      rintro e w3 ⟨v3, rfl, hb3, hk3⟩
      obtain ⟨A3, c3, rfl⟩ := hb3.form
      exact ⟨_, rfl, ⟨A3, c3, rfl, hb3⟩, hk3.grownBy _⟩
    · simp [wantP, execOp, Ups, hn, hc, grown_refl, go_sem]
    · obtain ⟨q0, q1, q2⟩ := L5 wr hg
      simp only [wantP, if_true]
      unfold execOp
      go_simp
      exact ⟨rfl, grown_refl _ _⟩
    · obtain ⟨n1, n2⟩ := hn
      simp only [wantP, if_true]
      unfold execOp
      go_simp
      refine (HC10 wr (HBV wr hg)).mono ?_
      rintro e w3 ⟨v3, rfl, hb3, hk3⟩
      obtain ⟨A3, c3, rfl⟩ := hb3.form
      exact ⟨_, rfl, ⟨A3, c3, rfl, hb3⟩, hk3.grownBy _⟩
    · obtain ⟨⟨A3, c3, n1, n2⟩, ⟨A4, c4, n3, n4⟩⟩ := hn
      have N2 := Lib.hid n2
      have N4 := Lib.hid n4
      clear n2 n4
      simp only [wantP, if_true]
      unfold execOp
      go_simp
      refine (same_any p d l _ _ wr N2.out N4.out).mono ?_
      rintro e w3 ⟨rfl, hk3⟩
      exact ⟨_, rfl, rfl, hk3.grownBy _⟩
    · simp [wantP, execOp, Ups, hn, hc, grown_refl, go_sem]
    · simp [wantP, execOp, Ups, hn, hc, grown_refl, go_sem]
    · obtain ⟨n1, n9⟩ := hn
      obtain ⟨q0, q1, q2⟩ := L5 wr hg
      simp only [wantP, if_true, n9, beq_self_eq_true]
      unfold execOp
      go_simp
      exact ⟨rfl, grown_refl _ _⟩
    · obtain ⟨n1, n2, n9⟩ := hn
      simp only [wantP, if_true, n9, beq_self_eq_true]
      unfold execOp
      go_simp
      refine (HD11 wr _ _ (HBX wr hg) (HBV wr hg)).mono ?_
      rintro e w3 ⟨v3, rfl, hb3, hk3⟩
      exact ⟨v3, rfl, hb3, hk3.grownBy _⟩
    · obtain ⟨n1, n9⟩ := hn
      have hs := Bs.str (P := Try.prog) n1 22 9 5 Try.underlying22 Try.underlying5 Try.underlying9
      clear n1
      simp only [wantP, if_true, n9, beq_self_eq_true]
      unfold execOp
      go_simp
      exact ⟨rfl, grown_refl _ _⟩
    · simp [wantP, execOp, Ups, hn, hc, grown_refl, go_sem]
    · obtain ⟨n1, n9⟩ := hn
      obtain ⟨q0, q1, q2⟩ := L5 wr hg
      simp only [wantP, if_true, n9, beq_self_eq_true]
      unfold execOp
      go_simp
      exact ⟨rfl, grown_refl _ _⟩
    · obtain ⟨n1, n2, n9⟩ := hn
      simp only [wantP, if_true, n9, beq_self_eq_true]
      unfold execOp
      go_simp
      refine (HD12 wr _ _ (HBW wr hg) (HBV wr hg)).mono ?_
      rintro e w3 ⟨v3, rfl, hb3, hk3⟩
      exact ⟨v3, rfl, hb3, hk3.grownBy _⟩
    · obtain ⟨n1, n9⟩ := hn
      have hs := Bs.str (P := Try.prog) n1 22 9 5 Try.underlying22 Try.underlying5 Try.underlying9
      clear n1
      simp only [wantP, if_true, n9, beq_self_eq_true]
      unfold execOp
      go_simp
      exact ⟨rfl, grown_refl _ _⟩
    · simp [wantP, execOp, Ups, hn, hc, grown_refl, go_sem]
    · simp [wantP, execOp, Ups, hn, hc, grown_refl, go_sem]
    · simp [wantP, execOp, Ups, hn, hc, grown_refl, go_sem]
    · simp [wantP, execOp, Ups, hn, hc, grown_refl, go_sem]
    · obtain ⟨n1, n9⟩ := hn
      obtain ⟨q0, q1, q2⟩ := L5 wr hg
      simp only [wantP, if_true, n9, beq_self_eq_true]
      unfold execOp
      go_simp
      exact ⟨rfl, grown_refl _ _⟩
    · simp [wantP, execOp, Ups, hn, hc, grown_refl, go_sem]
    · obtain ⟨n1, n2, n3, n9⟩ := hn
      simp only [wantP, if_true, n9, beq_self_eq_true]
      unfold execOp
      go_simp
      refine (HM13 wr (HBV wr hg)).mono ?_
      rintro e w3 ⟨rfl, hk3⟩
      exact ⟨_, rfl, rfl, hk3.grownBy _⟩
    · simp [wantP, execOp, Ups, hn, hc, grown_refl, go_sem]
    · obtain ⟨n1, n9⟩ := hn
      obtain ⟨q0, q1, q2⟩ := L5 wr hg
      simp only [wantP, if_true, n9, beq_self_eq_true]
      unfold execOp
      go_simp
      exact ⟨rfl, grown_refl _ _⟩
    · simp [wantP, execOp, Ups, hn, hc, grown_refl, go_sem]
    · obtain ⟨n1, n2, n3, n9⟩ := hn
      simp only [wantP, if_true, n9, beq_self_eq_true]
      unfold execOp
      go_simp
      refine (HM14 wr (HBV wr hg)).mono ?_
      rintro e w3 ⟨rfl, hk3⟩
      exact ⟨_, rfl, rfl, hk3.grownBy _⟩
    · simp [wantP, execOp, Ups, hn, hc, grown_refl, go_sem]
    · simp [wantP, execOp, Ups, hn, hc, grown_refl, go_sem]
    · simp [wantP, execOp, Ups, hn, hc, grown_refl, go_sem]
    · simp [wantP, execOp, Ups, hn, hc, grown_refl, go_sem]
    · simp [wantP, execOp, Ups, hn, hc, grown_refl, go_sem]
    · obtain ⟨n1, n9⟩ := hn
      obtain ⟨q0, q1, q2⟩ := L5 wr hg
      simp only [wantP, if_true, n9, beq_self_eq_true]
      unfold execOp
      go_simp
      exact ⟨rfl, grown_refl _ _⟩
    · simp [wantP, execOp, Ups, hn, hc, grown_refl, go_sem]
    · obtain ⟨n1, n2, n3, n9⟩ := hn
      simp only [wantP, if_true, n9, beq_self_eq_true]
      unfold execOp
      go_simp
      refine (HN13 wr (HBV wr hg)).mono ?_
      rintro e w3 ⟨rfl, hk3⟩
      exact ⟨_, rfl, rfl, hk3.grownBy _⟩
    · simp [wantP, execOp, Ups, hn, hc, grown_refl, go_sem]
    · simp [wantP, execOp, Ups, hn, hc, grown_refl, go_sem]
    · obtain ⟨n1, n9⟩ := hn
      obtain ⟨q0, q1, q2⟩ := L5 wr hg
      simp only [wantP, if_true, n9, beq_self_eq_true]
      unfold execOp
      go_simp
      exact ⟨rfl, grown_refl _ _⟩
    · simp [wantP, execOp, Ups, hn, hc, grown_refl, go_sem]
    · obtain ⟨n1, n2, n3, n9⟩ := hn
      simp only [wantP, if_true, n9, beq_self_eq_true]
      unfold execOp
      go_simp
      refine (HN14 wr (HBV wr hg)).mono ?_
      rintro e w3 ⟨rfl, hk3⟩
      exact ⟨_, rfl, rfl, hk3.grownBy _⟩
    · simp [wantP, execOp, Ups, hn, hc, grown_refl, go_sem]
    · simp [wantP, execOp, Ups, hn, hc, grown_refl, go_sem]
    · simp [wantP, execOp, Ups, hn, hc, grown_refl, go_sem]
    · simp [wantP, execOp, Ups, hn, hc, grown_refl, go_sem]
    · obtain ⟨n1, n9⟩ := hn
      obtain ⟨q0, q1, q2⟩ := L5 wr hg
      simp only [wantP, if_true, n9, beq_self_eq_true]
      unfold execOp
      go_simp
      exact ⟨rfl, grown_refl _ _⟩
    · obtain ⟨n1, n2, n9⟩ := hn
      simp only [wantP, if_true, n9, beq_self_eq_true]
      unfold execOp
      go_simp
      refine (HB15 wr _ _ (HBX wr hg) (HBV wr hg)).mono ?_
      rintro e w3 ⟨v3, rfl, hb3, hk3⟩
      obtain ⟨A3, c3, rfl⟩ := hb3.form
      exact ⟨_, rfl, ⟨A3, c3, rfl, hb3⟩, hk3.grownBy _⟩
    · simp [wantP, execOp, Ups, hn, hc, grown_refl, go_sem]
    · obtain ⟨n1, n9⟩ := hn
      obtain ⟨q0, q1, q2⟩ := L5 wr hg
      simp only [wantP, if_true, n9, beq_self_eq_true]
      unfold execOp
      go_simp
      exact ⟨rfl, grown_refl _ _⟩
    · obtain ⟨n1, n2, n9⟩ := hn
      simp only [wantP, if_true, n9, beq_self_eq_true]
      unfold execOp
      go_simp
      refine (HB16 wr _ _ (HBW wr hg) (HBV wr hg)).mono ?_
      rintro e w3 ⟨v3, rfl, hb3, hk3⟩
      obtain ⟨A3, c3, rfl⟩ := hb3.form
      exact ⟨_, rfl, ⟨A3, c3, rfl, hb3⟩, hk3.grownBy _⟩
    · obtain ⟨⟨A3, c3, n1, n2⟩, ⟨A4, c4, n3, n4⟩, n9⟩ := hn
      have N2 := Lib.hid n2
      have N4 := Lib.hid n4
      clear n2 n4
      simp only [wantP, if_true, n9, beq_self_eq_true]
      unfold execOp
      go_simp
      refine (same_any q l.length mid _ _ wr N2.out N4.out).mono ?_
      rintro e w3 ⟨rfl, hk3⟩
      exact ⟨_, rfl, rfl, hk3.grownBy _⟩
    · simp [wantP, execOp, Ups, hn, hc, grown_refl, go_sem]
    · simp [wantP, execOp, Ups, hn, hc, grown_refl, go_sem]
    · simp [wantP, execOp, Ups, hn, hc, grown_refl, go_sem]
    · obtain ⟨n1, n9⟩ := hn
      have hs := Bs.str (P := Try.prog) (HBX wr hg) 22 9 5 Try.underlying22 Try.underlying5 Try.underlying9
      simp only [wantP, if_true, n9, beq_self_eq_true]
      unfold execOp
      go_simp
      exact ⟨rfl, grown_refl _ _⟩
    · simp [wantP, execOp, Ups, hn, hc, grown_refl, go_sem]
    · obtain ⟨n1, n9⟩ := hn
      have hs := Bs.str (P := Try.prog) (HBW wr hg) 22 9 5 Try.underlying22 Try.underlying5 Try.underlying9
      simp only [wantP, if_true, n9, beq_self_eq_true]
      unfold execOp
      go_simp
      exact ⟨rfl, grown_refl _ _⟩
    · simp [wantP, execOp, Ups, hn, hc, grown_refl, go_sem]
    · simp [wantP, execOp, Ups, hn, hc, grown_refl, go_sem]
    · simp [wantP, execOp, Ups, hn, hg, go_sem]
end Go.Proofs.Ytbpgbelfgigogaa
