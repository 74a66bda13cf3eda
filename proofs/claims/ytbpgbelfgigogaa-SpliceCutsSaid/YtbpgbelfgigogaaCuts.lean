/-
  What the law SpliceCuts does, on values and memory.
-/
import Derived.Test.YtbpgbelfgigogaaMap
import Derived.Deep.DeepCutAuto
set_option linter.unusedSimpArgs false
namespace Go.Proofs.Ytbpgbelfgigogaa
open Go Go.RowKit Kit
set_option maxHeartbeats 1000000 in
set_option maxRecDepth 100000 in
theorem cuts_any (A : Option Addr) (n c : Nat) (at' del : Int) (v : Value) (b l : List UInt8) (w : World) (hb : Bs w (.slice A n c) b) (hv : Bs w v l) (ha : -9223372036854775808 ≤ at' ∧ at' ≤ 9223372036854775807) (hd : -9223372036854775808 ≤ del ∧ del ≤ 9223372036854775807) :
    Calls Try.prog 6 #[.slice A n c, .agg #[.int .i64 at', .int .i64 del, v]] w fun e w' => e = .returned (.bool true) ∧ Kept w w' := by
  obtain ⟨A1, c1, rfl⟩ := hv.form
  obtain ⟨hn, hnc, hcm⟩ := hb.len
  subst hn
  by_cases hbig : b.length ≤ 500
  case neg =>
    have hbig' : ¬ (b.length : Int) ≤ 500 := by omega
    have HB := Lib.hid hb
    have HV := Lib.hid hv
    clear hb hv
    go_enter Try.func6, Try.ntmps6
    go_wp2_with fail
    refine (alive_any _).mono ?_
    rintro e w1 ⟨rfl, hk1⟩
    go_wp2_with fail
    go_ret
    exact ⟨rfl, ((Kept.refl _).alloc _).trans hk1⟩
  by_cases hbig2 : l.length ≤ 500
  case neg =>
    have hbig' : ¬ (l.length : Int) ≤ 500 := by omega
    have HB := Lib.hid hb
    have HV := Lib.hid hv
    clear hb hv
    go_enter Try.func6, Try.ntmps6
    go_wp2_with fail
    refine (alive_any _).mono ?_
    rintro e w1 ⟨rfl, hk1⟩
    obtain ⟨⟨hc0, hc1, hc2⟩, _⟩ := box3 (Kept.blk hk1 (blk_new w _))
    go_wp2_with fail
    go_ret
    exact ⟨rfl, ((Kept.refl _).alloc _).trans hk1⟩
  have HB := Lib.hid hb
  have HV := Lib.hid hv
  clear hb hv
  have HR := fun (w' : World) (v : Value) h => Lib.hid (clamp_any b.length at' del v l w' (by omega) (by omega) h (by omega))
  have HD2 := fun (w' : World) h h' => Lib.hid (do_any A b.length c at' del (.slice A1 l.length c1) b l w' h h' (by omega) (by omega))
  have hp := cutI_bd at' b.length
  generalize hp0 : cutI at' b.length = p at *
  have HP0 := Lib.hid hp0
  clear hp0
  have hd' := cutI_bd del (b.length - p)
  generalize hd0 : cutI del (b.length - p) = d at *
  have HD0 := Lib.hid hd0
  clear hd0
  have hp2 := hp.2 (by omega)
  have hd2 := hd'.2 (by omega)
  obtain ⟨p, rfl⟩ := Int.eq_ofNat_of_zero_le hp.1
  obtain ⟨d, rfl⟩ := Int.eq_ofNat_of_zero_le hd'.1
  clear hp hd'
  go_enter Try.func6, Try.ntmps6
  go_wp2_with fail
  refine (alive_any _).mono ?_
  rintro e w1 ⟨rfl, hk1⟩
  obtain ⟨⟨hc0, hc1, hc2⟩, _⟩ := box3 (Kept.blk hk1 (blk_new w _))
  have hkw1 : Kept w w1 := ((Kept.refl _).alloc _).trans hk1
  go_wp2_with fail
  refine (HR _ _ (HV.out.keep hkw1)).out.mono ?_
  rintro e w2 ⟨v', rfl, hb2, hk2⟩
  obtain ⟨A2, c2, rfl⟩ := hb2.form
  have hk12 : Kept w w2 := hkw1.trans hk2
  have hs1 : ∀ o, (convert 22 9 (.slice A2 l.length c2)).run Try.prog (w2.alloc o) = .ok (.string ⟨l.toArray⟩) (w2.alloc o) := fun o => (hb2.keep ((Kept.refl _).alloc _)).str 22 9 5 Try.underlying22 Try.underlying5 Try.underlying9
  have hs2 : ∀ o, (convert 22 9 (.slice A1 l.length c1)).run Try.prog (w2.alloc o) = .ok (.string ⟨l.toArray⟩) (w2.alloc o) := fun o => (HV.out.keep (hk12.alloc _)).str 22 9 5 Try.underlying22 Try.underlying5 Try.underlying9
  obtain ⟨⟨hd0, hd1, hd2'⟩, hd3⟩ := box3 (Kept.blk hk2 (Kept.blk hk1 (blk_new w _)))
  have HB2 := Lib.hid hb2
  have hlt : w.heap.size < w2.heap.size := by have := hk2.size; have := hk1.size; simp at this; omega
  clear hb2 hd3
  go_upto_region 7 with (fail)
  go_cut [7] (fun s7 wx => s7 = .bool (decide (0 ≤ at' ∧ at' ≤ b.length ∧ 0 ≤ del ∧ del ≤ b.length - at')) ∧ wx = w2.alloc (.cells #[.int .i64 p, .int .i64 d, .slice A2 l.length c2] 24))
  case first =>
    go_wp2
    all_goals
      go_meet
      refine ⟨?_, rfl⟩
      first | (rw [decide_eq_false (by omega)]; done) | (congr 1; rw [decide_eq_decide]; omega)
  case rest =>
    obtain ⟨rfl, rfl⟩ := hcut
    have hkf : Kept w (w2.alloc (.cells #[.int .i64 p, .int .i64 d, .slice A2 l.length c2] 24)) := hk12.alloc _
    have hW6 := blk_new w2 (.cells #[.int .i64 p, .int .i64 d, .slice A2 l.length c2] 24)
    have hW3 := blk_old w2 (.cells #[.int .i64 p, .int .i64 d, .slice A2 l.length c2] 24) (Kept.blk hk2 (Kept.blk hk1 (blk_new w _)))
    have hB2 := Bs.keep HB2.out ((Kept.refl _).alloc (.cells #[.int .i64 p, .int .i64 d, .slice A2 l.length c2] 24))
    generalize hinB : decide (0 ≤ at' ∧ at' ≤ b.length ∧ 0 ≤ del ∧ del ≤ b.length - at') = inB at *
    have HIN := Lib.hid hinB
    clear hinB
    generalize w2.alloc (.cells #[.int .i64 p, .int .i64 d, .slice A2 l.length c2] 24) = W at *
    go_wp2_with fail
    refine wp_abs (fun a => a.tmps.size = 112 ∧ a.defers = [] ∧ a.eval (.tmp 0) = .slice A b.length c ∧ a.eval (.tmp 3) = .pointer (some ⟨w.heap.size, 0, none⟩) ∧ a.eval (.tmp 6) = .pointer (some ⟨w2.heap.size, 0, none⟩) ∧ a.eval (.tmp 7) = .bool inB) ⟨rfl, rfl, rfl, rfl, rfl, rfl⟩ ?_
    rintro a0 ⟨hsz, hdef, h0, h3, h6, h7⟩
    clear hs1 hs2 hd0 hd1 hd2' hc0 hc1 hc2 u8 u9 u10 u11
    have HBS : ∀ wr, W.drew.grownBy wr none → Bs wr (.slice A2 l.length c2) l := fun wr hg => hB2.keep ((Kept.drew (Kept.refl _)).trans (Kept.of_grown hg))
    have HBW : ∀ wr, W.drew.grownBy wr none → Bs wr (.slice A b.length c) b := fun wr hg => HB.out.keep (hkf.trans ((Kept.drew (Kept.refl _)).trans (Kept.of_grown hg)))
    have HBV : ∀ wr, W.drew.grownBy wr none → Bs wr (.slice A1 l.length c1) l := fun wr hg => HV.out.keep (hkf.trans ((Kept.drew (Kept.refl _)).trans (Kept.of_grown hg)))
    have L6 : ∀ wr, W.drew.grownBy wr none → wr.cell? ⟨w2.heap.size, 0, none⟩ = some (.int .i64 p) ∧ wr.cell? ⟨w2.heap.size, 1, none⟩ = some (.int .i64 d) ∧ wr.cell? ⟨w2.heap.size, 2, none⟩ = some (.slice A2 l.length c2) := fun wr hg => (box3 (Kept.blk ((Kept.drew (Kept.refl _)).trans (Kept.of_grown hg)) hW6)).1
    have L3 : ∀ wr, W.drew.grownBy wr none → wr.cell? ⟨w.heap.size, 0, none⟩ = some (.int .i64 at') ∧ wr.cell? ⟨w.heap.size, 1, none⟩ = some (.int .i64 del) ∧ wr.cell? ⟨w.heap.size, 2, none⟩ = some (.slice A1 l.length c1) := fun wr hg => (box3 (Kept.blk ((Kept.drew (Kept.refl _)).trans (Kept.of_grown hg)) hW3)).1
    have e1 : cutI (p : Int) b.length = p := by unfold cutI; omega
    have e2 : cutI (d : Int) (b.length - p) = d := by unfold cutI; omega
    have HC3 : ∀ wr, Bs wr (.slice A2 l.length c2) l → Calls Try.prog 9 #[.int .i64 b.length, .agg #[.int .i64 p, .int .i64 d, .slice A2 l.length c2]] wr fun e w' => ∃ v', e = .returned (.agg #[.int .i64 p, .int .i64 d, v']) ∧ Bs w' v' l ∧ Kept wr w' := fun wr h => by
      have := clamp_any b.length p d (.slice A2 l.length c2) l wr (by omega) (by omega) h (by omega)
      rwa [e1, e2] at this
    have HD1 : ∀ wr, Bs wr (.slice A b.length c) b → Bs wr (.slice A2 l.length c2) l → Calls Try.prog 11 #[.slice A b.length c, .agg #[.int .i64 p, .int .i64 d, .slice A2 l.length c2]] wr fun e w' => ∃ v', e = .returned v' ∧ Bs w' v' (b.take p ++ (l ++ b.drop (p + d))) ∧ Kept wr w' := fun wr h h' => by
      have := do_any A b.length c p d (.slice A2 l.length c2) b l wr h h' (by omega) (by omega)
      rw [e1, e2] at this
      simpa only [Int.toNat_natCast, List.append_assoc] using this
    have HD2' : ∀ wr, Bs wr (.slice A b.length c) b → Bs wr (.slice A1 l.length c1) l → Calls Try.prog 11 #[.slice A b.length c, .agg #[.int .i64 at', .int .i64 del, .slice A1 l.length c1]] wr fun e w' => ∃ v', e = .returned v' ∧ Bs w' v' (b.take p ++ (l ++ b.drop (p + d))) ∧ Kept wr w' := fun wr h h' => by
      have := (HD2 wr h h').out
      simpa only [Int.toNat_natCast, List.append_assoc] using this
    clear HD2
    have HD2 := HD2'
    clear HD2' e1 e2 hW6 hW3 hB2 HB2 HR
    cases inB
    case false =>
      refine wp_region_plan none (vat [isv (.slice A b.length c),
          isv (.int .i64 b.length),
          isv (.agg #[.int .i64 p, .int .i64 d, .slice A2 l.length c2]),
          fun u w' => ∃ A3 c3, u = .agg #[.int .i64 p, .int .i64 d, .slice A3 l.length c3] ∧ Bs w' (.slice A3 l.length c3) l,
          isv (.agg #[.int .i64 p, .int .i64 d, .slice A2 l.length c2]),
          isv (.bool true),
          isv (.bool true),
          isv (.slice A b.length c),
          isv (.agg #[.int .i64 p, .int .i64 d, .slice A2 l.length c2]),
          fun u w' => Bs w' u (b.take p ++ (l ++ b.drop (p + d))),
          isv (.string ⟨(b.take p ++ (l ++ b.drop (p + d))).toArray⟩),
          isv (.slice A b.length c),
          isv (.agg #[.int .i64 at', .int .i64 del, .slice A1 l.length c1]),
          fun u w' => Bs w' u (b.take p ++ (l ++ b.drop (p + d))),
          isv (.string ⟨(b.take p ++ (l ++ b.drop (p + d))).toArray⟩),
          isv (.bool true),
          isv (.bool true),
          isv (.bool true),
          isv (.bool false),
          isv (.bool true),
          isv (.bool true),
          isv undef,
          isv undef,
          isv undef,
          isv (.bool true),
          isv (.bool true)])
        (fun u w' => u = .bool true ∧ (World.drew W).grownBy w' none)
        [([(0, none)], none), ([(86, some 0)], none), ([(6, none)], none), ([(87, some 1), (88, some 2)], none), ([(6, none)], none), ([(89, some 3), (90, some 4)], none), ([(91, some 5)], none), ([(0, none), (92, some 6)], some (92, true)), ([(6, none), (92, some 6)], some (92, true)), ([(93, some 7), (94, some 8), (92, some 6)], some (92, true)), ([(95, some 9), (92, some 6)], some (92, true)), ([(0, none), (92, some 6)], some (92, true)), ([(3, none), (92, some 6)], some (92, true)), ([(97, some 11), (98, some 12), (92, some 6)], some (92, true)), ([(99, some 13), (92, some 6)], some (92, true)), ([(96, some 10), (100, some 14), (92, some 6)], some (92, true)), ([(92, some 6), (101, some 15)], none), ([(102, some 16)], none), ([(7, none), (103, some 17)], some (103, true)), ([(104, some 18), (103, some 17)], some (103, true)), ([(105, some 19), (103, some 17)], some (103, true)), ([(6, none), (106, some 20)], some (106, false)), ([(3, none), (106, some 20)], some (106, false)), ([(107, some 21), (108, some 22), (106, some 20)], some (106, false)), ([(106, some 20), (109, some 23), (103, some 17)], some (103, true)), ([(103, some 17), (110, some 24)], none), ([(111, some 25)], none)]
        (by kernel_rfl) 112 hsz (by kernel_rfl) (by kernel_rfl) (by decide) ?st ?steps ?fin
      case st =>
        refine stays_vat _ _ fun q hq => ?_
        simp only [List.mem_cons, List.not_mem_nil, or_false] at hq
        rcases hq with rfl | rfl | rfl | rfl | rfl | rfl | rfl | rfl | rfl | rfl | rfl | rfl | rfl | rfl | rfl | rfl | rfl | rfl | rfl | rfl | rfl | rfl | rfl | rfl | rfl | rfl
        all_goals first | exact stays_isv _ _ | (rintro u x y hg ⟨A3, c3, rfl, h⟩; exact ⟨A3, c3, rfl, h.keep (Kept.of_grown hg)⟩) | (intro u x y hg h; exact Bs.keep h (Kept.of_grown hg))
      case fin =>
        rintro a o u w' hL ho ⟨rfl, hg⟩
        simp at ho
        subst ho
        rename_i K hK
        exact hK _ _ (ret_slot (d := 4) rfl (Nat.lt_of_lt_of_eq (by decide : 4 < 112) (hL.tsize.trans hsz).symm) (hL.defers.trans hdef) ⟨rfl, hkf.trans ((Kept.drew (Kept.refl _)).trans (Kept.of_grown hg))⟩)
      case steps =>
        refine ⟨?_, ?_, ?_, ?_, ?_, ?_, ?_, ?_, ?_, ?_, ?_, ?_, ?_, ?_, ?_, ?_, ?_, ?_, ?_, ?_, ?_, ?_, ?_, ?_, ?_, ?_, ?_⟩
        all_goals
          intro ρ wr hg hn hc hf hgl
          simp only [Need, vat, List.getD_cons_zero, List.getD_cons_succ, isv, and_true, h0, h3, h6, h7] at hn ⊢
        · simp [wantP, execOp, Ups, hn, hc, grown_refl, go_sem]
        · simp [wantP, execOp, Ups, hn, hc, grown_refl, go_sem]
        · obtain ⟨q0, q1, q2⟩ := L6 wr hg
          simp only [wantP, if_true]
          unfold execOp
          go_simp
          exact ⟨rfl, grown_refl _ _⟩
        · obtain ⟨n1, n2⟩ := hn
          simp only [wantP, if_true]
          unfold execOp
          go_simp
          refine (HC3 wr (HBS wr hg)).mono ?_
          rintro e w3 ⟨v3, rfl, hb3, hk3⟩
          obtain ⟨A3, c3, rfl⟩ := hb3.form
          exact ⟨_, rfl, ⟨A3, c3, rfl, hb3⟩, hk3.grownBy _⟩
        · obtain ⟨q0, q1, q2⟩ := L6 wr hg
          simp only [wantP, if_true]
          unfold execOp
          go_simp
          exact ⟨rfl, grown_refl _ _⟩
        · obtain ⟨⟨A3, c3, n1, n2⟩, n3⟩ := hn
          have N2 := Lib.hid n2
          clear n2
          simp only [wantP, if_true]
          unfold execOp
          go_simp
          refine (same_any p d l _ _ wr N2.out (HBS wr hg)).mono ?_
          rintro e w3 ⟨rfl, hk3⟩
          exact ⟨_, rfl, rfl, hk3.grownBy _⟩
        · simp [wantP, execOp, Ups, hn, hc, grown_refl, go_sem]
        · simp [wantP, execOp, Ups, hn, hc, grown_refl, go_sem]
        · obtain ⟨q0, q1, q2⟩ := L6 wr hg
          obtain ⟨n1, n2⟩ := hn
          simp only [wantP, if_true, n2, beq_self_eq_true]
          unfold execOp
          go_simp
          exact ⟨rfl, grown_refl _ _⟩
        · obtain ⟨n1, n2, n3⟩ := hn
          simp only [wantP, if_true, n3, beq_self_eq_true]
          unfold execOp
          go_simp
          refine (HD1 wr (HBW wr hg) (HBS wr hg)).mono ?_
          rintro e w3 ⟨v3, rfl, hb3, hk3⟩
          exact ⟨v3, rfl, hb3, hk3.grownBy _⟩
        · obtain ⟨n1, n2⟩ := hn
          have hs := n1.str (P := Try.prog) 22 9 5 Try.underlying22 Try.underlying5 Try.underlying9
          clear n1
          simp only [wantP, if_true, n2, beq_self_eq_true]
          unfold execOp
          go_simp
          exact ⟨rfl, grown_refl _ _⟩
        · simp [wantP, execOp, Ups, hn, hc, grown_refl, go_sem]
        · obtain ⟨q0, q1, q2⟩ := L3 wr hg
          obtain ⟨n1, n2⟩ := hn
          simp only [wantP, if_true, n2, beq_self_eq_true]
          unfold execOp
          go_simp
          exact ⟨rfl, grown_refl _ _⟩
        · obtain ⟨n1, n2, n3⟩ := hn
          simp only [wantP, if_true, n3, beq_self_eq_true]
          unfold execOp
          go_simp
          refine (HD2 wr (HBW wr hg) (HBV wr hg)).mono ?_
          rintro e w3 ⟨v3, rfl, hb3, hk3⟩
          exact ⟨v3, rfl, hb3, hk3.grownBy _⟩
        · obtain ⟨n1, n2⟩ := hn
          have hs := n1.str (P := Try.prog) 22 9 5 Try.underlying22 Try.underlying5 Try.underlying9
          clear n1
          simp only [wantP, if_true, n2, beq_self_eq_true]
          unfold execOp
          go_simp
          exact ⟨rfl, grown_refl _ _⟩
        · simp [wantP, execOp, Ups, hn, hc, grown_refl, go_sem]
        · simp [wantP, execOp, Ups, hn, hc, grown_refl, go_sem]
        · simp [wantP, execOp, Ups, hn, hc, grown_refl, go_sem]
        · simp [wantP, execOp, Ups, hn, hc, grown_refl, go_sem]
        · simp [wantP, execOp, Ups, hn, hc, grown_refl, go_sem]
        · simp [wantP, execOp, Ups, hn, hc, grown_refl, go_sem]
        · simp [wantP, execOp, Ups, hn, hc, grown_refl, go_sem]
        · simp [wantP, execOp, Ups, hn, hc, grown_refl, go_sem]
        · simp [wantP, execOp, Ups, hn, hc, grown_refl, go_sem]
        · simp [wantP, execOp, Ups, hn, hc, grown_refl, go_sem]
        · simp [wantP, execOp, Ups, hn, hc, grown_refl, go_sem]
        · simp [wantP, execOp, Ups, hn, hg, go_sem]
    case true =>
      have hin := of_decide_eq_true HIN.out
      have hp0 := HP0.out
      have hd0 := HD0.out
      have ea : at' = p := by unfold cutI at hp0; omega
      have ed : del = d := by unfold cutI at hd0; omega
      have HSA : ∀ wr, Bs wr (.slice A2 l.length c2) l → Bs wr (.slice A1 l.length c1) l → Calls Try.prog 8 #[.agg #[.int .i64 p, .int .i64 d, .slice A2 l.length c2], .agg #[.int .i64 at', .int .i64 del, .slice A1 l.length c1]] wr fun e w' => e = .returned (.bool true) ∧ Kept wr w' := fun wr h h' => by
        rw [ea, ed]
        exact same_any p d l _ _ wr h h'
      clear hin hp0 hd0 ea ed
      refine wp_region_plan none (vat [isv (.slice A b.length c),
          isv (.int .i64 b.length),
          isv (.agg #[.int .i64 p, .int .i64 d, .slice A2 l.length c2]),
          fun u w' => ∃ A3 c3, u = .agg #[.int .i64 p, .int .i64 d, .slice A3 l.length c3] ∧ Bs w' (.slice A3 l.length c3) l,
          isv (.agg #[.int .i64 p, .int .i64 d, .slice A2 l.length c2]),
          isv (.bool true),
          isv (.bool true),
          isv (.slice A b.length c),
          isv (.agg #[.int .i64 p, .int .i64 d, .slice A2 l.length c2]),
          fun u w' => Bs w' u (b.take p ++ (l ++ b.drop (p + d))),
          isv (.string ⟨(b.take p ++ (l ++ b.drop (p + d))).toArray⟩),
          isv (.slice A b.length c),
          isv (.agg #[.int .i64 at', .int .i64 del, .slice A1 l.length c1]),
          fun u w' => Bs w' u (b.take p ++ (l ++ b.drop (p + d))),
          isv (.string ⟨(b.take p ++ (l ++ b.drop (p + d))).toArray⟩),
          isv (.bool true),
          isv (.bool true),
          isv (.bool true),
          isv (.bool true),
          isv (.bool false),
          isv (.bool false),
          isv (.agg #[.int .i64 p, .int .i64 d, .slice A2 l.length c2]),
          isv (.agg #[.int .i64 at', .int .i64 del, .slice A1 l.length c1]),
          isv (.bool true),
          isv (.bool true),
          isv (.bool true)])
        (fun u w' => u = .bool true ∧ (World.drew W).grownBy w' none)
        [([(0, none)], none), ([(86, some 0)], none), ([(6, none)], none), ([(87, some 1), (88, some 2)], none), ([(6, none)], none), ([(89, some 3), (90, some 4)], none), ([(91, some 5)], none), ([(0, none), (92, some 6)], some (92, true)), ([(6, none), (92, some 6)], some (92, true)), ([(93, some 7), (94, some 8), (92, some 6)], some (92, true)), ([(95, some 9), (92, some 6)], some (92, true)), ([(0, none), (92, some 6)], some (92, true)), ([(3, none), (92, some 6)], some (92, true)), ([(97, some 11), (98, some 12), (92, some 6)], some (92, true)), ([(99, some 13), (92, some 6)], some (92, true)), ([(96, some 10), (100, some 14), (92, some 6)], some (92, true)), ([(92, some 6), (101, some 15)], none), ([(102, some 16)], none), ([(7, none), (103, some 17)], some (103, true)), ([(104, some 18), (103, some 17)], some (103, true)), ([(105, some 19), (103, some 17)], some (103, true)), ([(6, none), (106, some 20)], some (106, false)), ([(3, none), (106, some 20)], some (106, false)), ([(107, some 21), (108, some 22), (106, some 20)], some (106, false)), ([(106, some 20), (109, some 23), (103, some 17)], some (103, true)), ([(103, some 17), (110, some 24)], none), ([(111, some 25)], none)]
        (by kernel_rfl) 112 hsz (by kernel_rfl) (by kernel_rfl) (by decide) ?st ?steps ?fin
      case st =>
        refine stays_vat _ _ fun q hq => ?_
        simp only [List.mem_cons, List.not_mem_nil, or_false] at hq
        rcases hq with rfl | rfl | rfl | rfl | rfl | rfl | rfl | rfl | rfl | rfl | rfl | rfl | rfl | rfl | rfl | rfl | rfl | rfl | rfl | rfl | rfl | rfl | rfl | rfl | rfl | rfl
        all_goals first | exact stays_isv _ _ | (rintro u x y hg ⟨A3, c3, rfl, h⟩; exact ⟨A3, c3, rfl, h.keep (Kept.of_grown hg)⟩) | (intro u x y hg h; exact Bs.keep h (Kept.of_grown hg))
      case fin =>
        rintro a o u w' hL ho ⟨rfl, hg⟩
        simp at ho
        subst ho
        rename_i K hK
        exact hK _ _ (ret_slot (d := 4) rfl (Nat.lt_of_lt_of_eq (by decide : 4 < 112) (hL.tsize.trans hsz).symm) (hL.defers.trans hdef) ⟨rfl, hkf.trans ((Kept.drew (Kept.refl _)).trans (Kept.of_grown hg))⟩)
      case steps =>
        refine ⟨?_, ?_, ?_, ?_, ?_, ?_, ?_, ?_, ?_, ?_, ?_, ?_, ?_, ?_, ?_, ?_, ?_, ?_, ?_, ?_, ?_, ?_, ?_, ?_, ?_, ?_, ?_⟩
        all_goals
          intro ρ wr hg hn hc hf hgl
          simp only [Need, vat, List.getD_cons_zero, List.getD_cons_succ, isv, and_true, h0, h3, h6, h7] at hn ⊢
        · simp [wantP, execOp, Ups, hn, hc, grown_refl, go_sem]
        · simp [wantP, execOp, Ups, hn, hc, grown_refl, go_sem]
        · obtain ⟨q0, q1, q2⟩ := L6 wr hg
          simp only [wantP, if_true]
          unfold execOp
          go_simp
          exact ⟨rfl, grown_refl _ _⟩
        · obtain ⟨n1, n2⟩ := hn
          simp only [wantP, if_true]
          unfold execOp
          go_simp
          refine (HC3 wr (HBS wr hg)).mono ?_
          rintro e w3 ⟨v3, rfl, hb3, hk3⟩
          obtain ⟨A3, c3, rfl⟩ := hb3.form
          exact ⟨_, rfl, ⟨A3, c3, rfl, hb3⟩, hk3.grownBy _⟩
        · obtain ⟨q0, q1, q2⟩ := L6 wr hg
          simp only [wantP, if_true]
          unfold execOp
          go_simp
          exact ⟨rfl, grown_refl _ _⟩
        · obtain ⟨⟨A3, c3, n1, n2⟩, n3⟩ := hn
          have N2 := Lib.hid n2
          clear n2
          simp only [wantP, if_true]
          unfold execOp
          go_simp
          refine (same_any p d l _ _ wr N2.out (HBS wr hg)).mono ?_
          rintro e w3 ⟨rfl, hk3⟩
          exact ⟨_, rfl, rfl, hk3.grownBy _⟩
        · simp [wantP, execOp, Ups, hn, hc, grown_refl, go_sem]
        · simp [wantP, execOp, Ups, hn, hc, grown_refl, go_sem]
        · obtain ⟨q0, q1, q2⟩ := L6 wr hg
          obtain ⟨n1, n2⟩ := hn
          simp only [wantP, if_true, n2, beq_self_eq_true]
          unfold execOp
          go_simp
          exact ⟨rfl, grown_refl _ _⟩
        · obtain ⟨n1, n2, n3⟩ := hn
          simp only [wantP, if_true, n3, beq_self_eq_true]
          unfold execOp
          go_simp
          refine (HD1 wr (HBW wr hg) (HBS wr hg)).mono ?_
          rintro e w3 ⟨v3, rfl, hb3, hk3⟩
          exact ⟨v3, rfl, hb3, hk3.grownBy _⟩
        · obtain ⟨n1, n2⟩ := hn
          have hs := n1.str (P := Try.prog) 22 9 5 Try.underlying22 Try.underlying5 Try.underlying9
          clear n1
          simp only [wantP, if_true, n2, beq_self_eq_true]
          unfold execOp
          go_simp
          exact ⟨rfl, grown_refl _ _⟩
        · simp [wantP, execOp, Ups, hn, hc, grown_refl, go_sem]
        · obtain ⟨q0, q1, q2⟩ := L3 wr hg
          obtain ⟨n1, n2⟩ := hn
          simp only [wantP, if_true, n2, beq_self_eq_true]
          unfold execOp
          go_simp
          exact ⟨rfl, grown_refl _ _⟩
        · obtain ⟨n1, n2, n3⟩ := hn
          simp only [wantP, if_true, n3, beq_self_eq_true]
          unfold execOp
          go_simp
          refine (HD2 wr (HBW wr hg) (HBV wr hg)).mono ?_
          rintro e w3 ⟨v3, rfl, hb3, hk3⟩
          exact ⟨v3, rfl, hb3, hk3.grownBy _⟩
        · obtain ⟨n1, n2⟩ := hn
          have hs := n1.str (P := Try.prog) 22 9 5 Try.underlying22 Try.underlying5 Try.underlying9
          clear n1
          simp only [wantP, if_true, n2, beq_self_eq_true]
          unfold execOp
          go_simp
          exact ⟨rfl, grown_refl _ _⟩
        · simp [wantP, execOp, Ups, hn, hc, grown_refl, go_sem]
        · simp [wantP, execOp, Ups, hn, hc, grown_refl, go_sem]
        · simp [wantP, execOp, Ups, hn, hc, grown_refl, go_sem]
        · simp [wantP, execOp, Ups, hn, hc, grown_refl, go_sem]
        · simp [wantP, execOp, Ups, hn, hc, grown_refl, go_sem]
        · simp [wantP, execOp, Ups, hn, hc, grown_refl, go_sem]
        · obtain ⟨q0, q1, q2⟩ := L6 wr hg
          obtain ⟨n1, n2⟩ := hn
          simp only [wantP, if_true, n2, beq_self_eq_true]
          unfold execOp
          go_simp
          exact ⟨rfl, grown_refl _ _⟩
        · obtain ⟨q0, q1, q2⟩ := L3 wr hg
          obtain ⟨n1, n2⟩ := hn
          simp only [wantP, if_true, n2, beq_self_eq_true]
          unfold execOp
          go_simp
          exact ⟨rfl, grown_refl _ _⟩
        · obtain ⟨n1, n2, n3⟩ := hn
          simp only [wantP, if_true, n3, beq_self_eq_true]
          unfold execOp
          go_simp
          refine (HSA wr (HBS wr hg) (HBV wr hg)).mono ?_
          rintro e w3 ⟨rfl, hk3⟩
          exact ⟨_, rfl, rfl, hk3.grownBy _⟩
        · simp [wantP, execOp, Ups, hn, hc, grown_refl, go_sem]
        · simp [wantP, execOp, Ups, hn, hc, grown_refl, go_sem]
        · simp [wantP, execOp, Ups, hn, hg, go_sem]
end Go.Proofs.Ytbpgbelfgigogaa
