/-
  What the law SpliceBack does, on values and memory.
-/
import Derived.Test.YtbpgbelfgigogaaBack
set_option linter.unusedSimpArgs false
namespace Go.Proofs.Ytbpgbelfgigogaa
open Go Go.RowKit Kit

theorem undo (b l : List UInt8) (p d : Nat) (h : p + d ≤ b.length) :
    (b.take p ++ (l ++ b.drop (p + d))).take p ++ ((b.take (p + d)).drop p ++ (b.take p ++ (l ++ b.drop (p + d))).drop (p + l.length)) = b := by
  have h1 : (b.take p).length = p := by simp; omega
  rw [List.take_left' h1, ← List.append_assoc (b.take p) l, List.drop_left' (by simp; omega)]
  rw [← List.append_assoc]
  have h2 : b.take p ++ (b.take (p + d)).drop p = b.take (p + d) := by
    rw [List.drop_take, Nat.add_sub_cancel_left, ← List.take_add]
  rw [h2, List.take_append_drop]

set_option maxHeartbeats 1000000 in
set_option maxRecDepth 100000 in
theorem lawBack_any (A : Option Addr) (n c : Nat) (at' del : Int) (v : Value) (b l : List UInt8) (w : World) (hb : Bs w (.slice A n c) b) (hv : Bs w v l) :
    Calls Try.prog 4 #[.slice A n c, .agg #[.int .i64 at', .int .i64 del, v]] w fun e w' => e = .returned (.bool true) ∧ Kept w w' := by
  obtain ⟨A1, c1, rfl⟩ := hv.form
  obtain ⟨hn, hnc, hcm⟩ := hb.len
  subst hn
  by_cases hbig : b.length ≤ 1000
  case neg =>
    have hbig' : ¬ (b.length : Int) ≤ 1000 := by omega
    have HB := Lib.hid hb
    have HV := Lib.hid hv
    clear hb hv
    go_enter Try.func4, Try.ntmps4
    go_wp2_with fail
    refine (alive_any _).mono ?_
    rintro e w1 ⟨rfl, hk1⟩
    go_wp2_with fail
    go_ret
    exact ⟨rfl, ((Kept.refl _).alloc _).trans hk1⟩
  by_cases hbig2 : l.length ≤ 1000
  case neg =>
    have hbig' : ¬ (l.length : Int) ≤ 1000 := by omega
    have HB := Lib.hid hb
    have HV := Lib.hid hv
    clear hb hv
    go_enter Try.func4, Try.ntmps4
    go_wp2_with fail
    refine (alive_any _).mono ?_
    rintro e w1 ⟨rfl, hk1⟩
    obtain ⟨⟨hc0, hc1, hc2⟩, _⟩ := box3 (Kept.blk hk1 (blk_new w _))
    go_wp2_with fail
    go_ret
    exact ⟨rfl, ((Kept.refl _).alloc _).trans hk1⟩
  have HB := Lib.hid hb
  have HV := Lib.hid hv
  clear hb hv
  obtain ⟨p, d, R, mid, hpd, HDO, HBK, HDU⟩ : ∃ (p d : Nat) (R mid : List UInt8), p + d ≤ b.length ∧
      (∀ (wr : World) (A' : Option Addr) (c' : Nat), Bs wr (.slice A' b.length c') b → Bs wr (.slice A1 l.length c1) l → Calls Try.prog 11 #[.slice A' b.length c', .agg #[.int .i64 at', .int .i64 del, .slice A1 l.length c1]] wr fun e w' => ∃ v', e = .returned v' ∧ Bs w' v' R ∧ Kept wr w') ∧
      (∀ (wr : World), Bs wr (.slice A b.length c) b → Bs wr (.slice A1 l.length c1) l → Calls Try.prog 15 #[.slice A b.length c, .agg #[.int .i64 at', .int .i64 del, .slice A1 l.length c1]] wr fun e w' => ∃ v', e = .returned (.agg #[.int .i64 p, .int .i64 l.length, v']) ∧ Bs w' v' mid ∧ Kept wr w') ∧
      (∀ (wr : World) (A' : Option Addr) (c' : Nat) (A2 : Option Addr) (c2 : Nat), Bs wr (.slice A' R.length c') R → Bs wr (.slice A2 mid.length c2) mid → Calls Try.prog 11 #[.slice A' R.length c', .agg #[.int .i64 p, .int .i64 l.length, .slice A2 mid.length c2]] wr fun e w' => ∃ v', e = .returned v' ∧ Bs w' v' b ∧ Kept wr w') := by
    have hp := cutI_bd at' b.length
    have hd' := cutI_bd del (b.length - cutI at' b.length)
    refine ⟨(cutI at' b.length).toNat, (cutI del (b.length - cutI at' b.length)).toNat, b.take (cutI at' b.length).toNat ++ (l ++ b.drop ((cutI at' b.length).toNat + (cutI del (b.length - cutI at' b.length)).toNat)), (b.take ((cutI at' b.length).toNat + (cutI del (b.length - cutI at' b.length)).toNat)).drop (cutI at' b.length).toNat, by omega, fun wr A' c' h h' => ?_, fun wr h h' => ?_, fun wr A' c' A2 c2 h h' => ?_⟩
    · have := do_any A' b.length c' at' del _ b l wr h h' (by omega) (by omega)
      simpa only [List.append_assoc] using this
    · have := back_any A b.length c at' del _ b l wr h h' (by omega)
      rwa [show ((cutI at' b.length).toNat : Int) = cutI at' b.length from by omega]
    · have hp2 : cutI at' b.length + cutI del (b.length - cutI at' b.length) ≤ b.length := by omega
      obtain ⟨p, hp3⟩ := Int.eq_ofNat_of_zero_le hp.1
      rw [hp3] at h h' hp2 ⊢
      obtain ⟨d, hd3⟩ := Int.eq_ofNat_of_zero_le (hp3 ▸ hd'.1)
      rw [hd3] at h h' hp2 ⊢
      simp only [Int.toNat_natCast] at h h' ⊢
      have hu := undo b l p d (by omega)
      have hRl : (b.take p ++ (l ++ b.drop (p + d))).length = b.length - d + l.length := by simp; omega
      generalize b.take p ++ (l ++ b.drop (p + d)) = R at *
      have hml : ((b.take (p + d)).drop p).length ≤ 1000 := by simp; omega
      generalize (b.take (p + d)).drop p = mid at *
      have e1 : cutI (p : Int) R.length = p := by unfold cutI; omega
      have e2 : cutI (l.length : Int) (R.length - p) = l.length := by unfold cutI; omega
      have := do_any A' R.length c' p l.length _ R mid wr h h' (by omega) (by omega)
      rw [e1, e2] at this
      simp only [Int.toNat_natCast, List.append_assoc] at this
      rwa [hu] at this
  go_enter Try.func4, Try.ntmps4
  go_wp2_with fail
  refine (alive_any _).mono ?_
  rintro e w1 ⟨rfl, hk1⟩
  obtain ⟨⟨hc0, hc1, hc2⟩, _⟩ := box3 (Kept.blk hk1 (blk_new w _))
  have hkw1 : Kept w w1 := ((Kept.refl _).alloc _).trans hk1
  go_wp2_with fail
  refine (HDO _ _ _ (HB.out.keep hkw1) (HV.out.keep hkw1)).mono ?_
  rintro e w2 ⟨v', rfl, hb2, hk2⟩
  obtain ⟨A3, c3, rfl⟩ := hb2.form
  have HB3' := Lib.hid hb2
  clear hb2
  obtain ⟨⟨hd0, hd1, hd2'⟩, hd3⟩ := box3 (Kept.blk hk2 (Kept.blk hk1 (blk_new w _)))
  go_wp2_with fail
  refine (HBK _ (HB.out.keep (hkw1.trans hk2)) (HV.out.keep (hkw1.trans hk2))).mono ?_
  rintro e w3 ⟨v', rfl, hb3, hk3⟩
  obtain ⟨A2, c2, rfl⟩ := hb3.form
  have HB2' := Lib.hid hb3
  clear hb3
  go_wp2_with fail
  have hkf : Kept w (w3.alloc (.cells #[.int .i64 p, .int .i64 l.length, .slice A2 mid.length c2] 24)) := (hkw1.trans (hk2.trans hk3)).alloc _
  have hW7 := blk_new w3 (.cells #[.int .i64 p, .int .i64 l.length, .slice A2 mid.length c2] 24)
  have hW3 := blk_old w3 (.cells #[.int .i64 p, .int .i64 l.length, .slice A2 mid.length c2] 24) (Kept.blk hk3 (Kept.blk hk2 (Kept.blk hk1 (blk_new w _))))
  have hB2 := Bs.keep HB2'.out ((Kept.refl _).alloc (.cells #[.int .i64 p, .int .i64 l.length, .slice A2 mid.length c2] 24))
  have hB3 := Bs.keep HB3'.out (hk3.alloc (.cells #[.int .i64 p, .int .i64 l.length, .slice A2 mid.length c2] 24))
  generalize w3.alloc (.cells #[.int .i64 p, .int .i64 l.length, .slice A2 mid.length c2] 24) = W at *
  refine wp_abs (fun a => a.tmps.size = 47 ∧ a.defers = [] ∧ a.eval (.tmp 0) = .slice A b.length c ∧ a.eval (.tmp 3) = .pointer (some ⟨w.heap.size, 0, none⟩) ∧ a.eval (.tmp 6) = .slice A3 R.length c3 ∧ a.eval (.tmp 7) = .pointer (some ⟨w3.heap.size, 0, none⟩)) ⟨rfl, rfl, rfl, rfl, rfl, rfl⟩ ?_
  rintro a0 ⟨hsz, hdef, h0, h3, h6, h7⟩
  have hkW : ∀ wr, W.drew.grownBy wr none → Kept W wr := fun wr hg => (Kept.drew (Kept.refl _)).trans (Kept.of_grown hg)
  have HB2 : ∀ wr, W.drew.grownBy wr none → Bs wr (.slice A2 mid.length c2) mid := fun wr hg => hB2.keep (hkW wr hg)
  have HB3 : ∀ wr, W.drew.grownBy wr none → Bs wr (.slice A3 R.length c3) R := fun wr hg => hB3.keep (hkW wr hg)
  have HBW : ∀ wr, W.drew.grownBy wr none → Bs wr (.slice A b.length c) b := fun wr hg => HB.out.keep (hkf.trans (hkW wr hg))
  have HBV : ∀ wr, W.drew.grownBy wr none → Bs wr (.slice A1 l.length c1) l := fun wr hg => HV.out.keep (hkf.trans (hkW wr hg))
  have L7 : ∀ wr, W.drew.grownBy wr none → wr.cell? ⟨w3.heap.size, 0, none⟩ = some (.int .i64 p) ∧ wr.cell? ⟨w3.heap.size, 1, none⟩ = some (.int .i64 l.length) ∧ wr.cell? ⟨w3.heap.size, 2, none⟩ = some (.slice A2 mid.length c2) := fun wr hg => (box3 (Kept.blk (hkW wr hg) hW7)).1
  have L3 : ∀ wr, W.drew.grownBy wr none → wr.cell? ⟨w.heap.size, 0, none⟩ = some (.int .i64 at') ∧ wr.cell? ⟨w.heap.size, 1, none⟩ = some (.int .i64 del) ∧ wr.cell? ⟨w.heap.size, 2, none⟩ = some (.slice A1 l.length c1) := fun wr hg => (box3 (Kept.blk (hkW wr hg) hW3)).1
  clear hkW hB2 hB3 hW7 hW3 HB2' HB3' hd0 hd1 hd2' hd3 hc0 hc1 hc2 HBK hk1 hk2 hk3 hkw1
  refine wp_region_plan none (vat [isv (.slice A3 R.length c3),
      isv (.agg #[.int .i64 p, .int .i64 l.length, .slice A2 mid.length c2]),
      fun u w' => Bs w' u b,
      isv (.string ⟨b.toArray⟩),
      isv (.slice A b.length c),
      isv (.string ⟨b.toArray⟩),
      isv (.bool true),
      isv (.bool true),
      isv (.slice A3 R.length c3),
      isv (.agg #[.int .i64 p, .int .i64 l.length, .slice A2 mid.length c2]),
      fun u w' => Bs w' u b,
      isv (.agg #[.int .i64 at', .int .i64 del, .slice A1 l.length c1]),
      fun u w' => Bs w' u R,
      isv (.string ⟨R.toArray⟩),
      isv (.slice A3 R.length c3),
      isv (.string ⟨R.toArray⟩),
      isv (.bool true),
      isv (.bool true)])
    (fun u w' => u = .bool true ∧ (World.drew W).grownBy w' none)
    [([(6, none)], none), ([(7, none)], none), ([(29, some 0), (30, some 1)], none), ([(31, some 2)], none), ([(0, none)], none), ([(33, some 4)], none), ([(32, some 3), (34, some 5)], none), ([(35, some 6)], none), ([(6, none), (36, some 7)], some (36, true)), ([(7, none), (36, some 7)], some (36, true)), ([(37, some 8), (38, some 9), (36, some 7)], some (36, true)), ([(3, none), (36, some 7)], some (36, true)), ([(39, some 10), (40, some 11), (36, some 7)], some (36, true)), ([(41, some 12), (36, some 7)], some (36, true)), ([(6, none), (36, some 7)], some (36, true)), ([(43, some 14), (36, some 7)], some (36, true)), ([(42, some 13), (44, some 15), (36, some 7)], some (36, true)), ([(36, some 7), (45, some 16)], none), ([(46, some 17)], none)]
    (by kernel_rfl) 47 hsz (by kernel_rfl) (by kernel_rfl) (by decide) ?st ?steps ?fin
  case st =>
    refine stays_vat _ _ fun q hq => ?_
    simp only [List.mem_cons, List.not_mem_nil, or_false] at hq
    rcases hq with rfl | rfl | rfl | rfl | rfl | rfl | rfl | rfl | rfl | rfl | rfl | rfl | rfl | rfl | rfl | rfl | rfl | rfl
    all_goals first | exact stays_isv _ _ | (intro u x y hg h; exact Bs.keep h (Kept.of_grown hg))
  case fin =>
    rintro a o u w' hL ho ⟨rfl, hg⟩
    simp at ho
    subst ho
    rename_i K hK
    exact hK _ _ (ret_slot (d := 4) rfl (Nat.lt_of_lt_of_eq (by decide : 4 < 47) (hL.tsize.trans hsz).symm) (hL.defers.trans hdef) ⟨rfl, hkf.trans ((Kept.drew (Kept.refl _)).trans (Kept.of_grown hg))⟩)
  case steps =>
    refine ⟨?_, ?_, ?_, ?_, ?_, ?_, ?_, ?_, ?_, ?_, ?_, ?_, ?_, ?_, ?_, ?_, ?_, ?_, ?_⟩
    all_goals
      intro ρ wr hg hn hc hf hgl
      simp only [Need, vat, List.getD_cons_zero, List.getD_cons_succ, isv, and_true, h0, h3, h6, h7] at hn ⊢
    · simp [wantP, execOp, Ups, hn, hc, grown_refl, go_sem]
    · obtain ⟨q0, q1, q2⟩ := L7 wr hg
      simp only [wantP, if_true]
      unfold execOp
      go_simp
      exact ⟨rfl, grown_refl _ _⟩
    · obtain ⟨n1, n2⟩ := hn
      simp only [wantP, if_true]
      unfold execOp
      go_simp
      refine (HDU wr _ _ _ _ (HB3 wr hg) (HB2 wr hg)).mono ?_
      rintro e w3 ⟨v3, rfl, hb3, hk3⟩
      exact ⟨v3, rfl, hb3, hk3.grownBy _⟩
    · have hs := Bs.str (P := Try.prog) hn 22 9 5 Try.underlying22 Try.underlying5 Try.underlying9
      clear hn
      simp only [wantP, if_true]
      unfold execOp
      go_simp
      exact ⟨rfl, grown_refl _ _⟩
    · simp [wantP, execOp, Ups, hn, hc, grown_refl, go_sem]
    · have hs := Bs.str (P := Try.prog) (HBW wr hg) 22 9 5 Try.underlying22 Try.underlying5 Try.underlying9
      simp only [wantP, if_true]
      unfold execOp
      go_simp
      exact ⟨rfl, grown_refl _ _⟩
    · simp [wantP, execOp, Ups, hn, hc, grown_refl, go_sem]
    · simp [wantP, execOp, Ups, hn, hc, grown_refl, go_sem]
    · simp [wantP, execOp, Ups, hn, hc, grown_refl, go_sem]
    · obtain ⟨n1, n9⟩ := hn
      obtain ⟨q0, q1, q2⟩ := L7 wr hg
      simp only [wantP, if_true, n9, beq_self_eq_true]
      unfold execOp
      go_simp
      exact ⟨rfl, grown_refl _ _⟩
    · obtain ⟨n1, n2, n9⟩ := hn
      simp only [wantP, if_true, n9, beq_self_eq_true]
      unfold execOp
      go_simp
      refine (HDU wr _ _ _ _ (HB3 wr hg) (HB2 wr hg)).mono ?_
      rintro e w3 ⟨v3, rfl, hb3, hk3⟩
      exact ⟨v3, rfl, hb3, hk3.grownBy _⟩
    · obtain ⟨n1, n9⟩ := hn
      obtain ⟨q0, q1, q2⟩ := L3 wr hg
      simp only [wantP, if_true, n9, beq_self_eq_true]
      unfold execOp
      go_simp
      exact ⟨rfl, grown_refl _ _⟩
    · obtain ⟨n1, n2, n9⟩ := hn
      obtain ⟨A4, c4, hv4⟩ := n1.form
      have N1 := Lib.hid n1
      clear n1
      rw [hv4] at N1
      simp only [wantP, if_true, n9, beq_self_eq_true]
      unfold execOp
      go_simp
      refine (HDO wr _ _ N1.out (HBV wr hg)).mono ?_
      rintro e w3 ⟨v3, rfl, hb3, hk3⟩
      exact ⟨v3, rfl, hb3, hk3.grownBy _⟩
    · obtain ⟨n1, n9⟩ := hn
      have hs := Bs.str (P := Try.prog) n1 22 9 5 Try.underlying22 Try.underlying5 Try.underlying9
      clear n1
      simp only [wantP, if_true, n9, beq_self_eq_true]
      unfold execOp
      go_simp
      exact ⟨rfl, grown_refl _ _⟩
    · simp [wantP, execOp, Ups, hn, hc, grown_refl, go_sem]
    · obtain ⟨n1, n9⟩ := hn
      have hs := Bs.str (P := Try.prog) (HB3 wr hg) 22 9 5 Try.underlying22 Try.underlying5 Try.underlying9
      simp only [wantP, if_true, n9, beq_self_eq_true]
      unfold execOp
      go_simp
      exact ⟨rfl, grown_refl _ _⟩
    · simp [wantP, execOp, Ups, hn, hc, grown_refl, go_sem]
    · simp [wantP, execOp, Ups, hn, hc, grown_refl, go_sem]
    · simp [wantP, execOp, Ups, hn, hg, go_sem]
end Go.Proofs.Ytbpgbelfgigogaa
