/-
  What the law SpliceMaps does, on values and memory.
-/
import Derived.Test.YtbpgbelfgigogaaBack
set_option linter.unusedSimpArgs false
namespace Go.Proofs.Ytbpgbelfgigogaa
open Go Go.RowKit Kit

theorem done_left (b l : List UInt8) (p d j : Nat) (h : p + d ≤ b.length) (hj : j < p) : (b.take p ++ (l ++ b.drop (p + d)))[j]? = b[j]? := by
  rw [List.getElem?_append_left (by simp; omega), List.getElem?_take, if_pos hj]
theorem done_right (b l : List UInt8) (p d j : Nat) (h : p + d ≤ b.length) (hj : p + d ≤ j) : (b.take p ++ (l ++ b.drop (p + d)))[j - d + l.length]? = b[j]? := by
  have h1 : (b.take p).length = p := by simp; omega
  rw [List.getElem?_append_right (by rw [h1]; omega), List.getElem?_append_right (by rw [h1]; omega), List.getElem?_drop, h1]
  congr 1
  omega

/-- What the law needs of a place x within the text. -/
theorem maps_facts (A : Option Addr) (c : Nat) (at' del : Int) (A1 : Option Addr) (c1 : Nat) (b l : List UInt8) (x : Nat) (hx : x < b.length) (hbig : b.length ≤ 1000) (hbig2 : l.length ≤ 1000) : ∃ (p d to : Nat) (R : List UInt8), p + d ≤ b.length ∧ R.length + d = b.length + l.length ∧ to ≤ R.length ∧
      (∀ (wr : World), Bs wr (.slice A b.length c) b → Bs wr (.slice A1 l.length c1) l → Calls Try.prog 11 #[.slice A b.length c, .agg #[.int .i64 at', .int .i64 del, .slice A1 l.length c1]] wr fun e w' => ∃ v', e = .returned v' ∧ Bs w' v' R ∧ Kept wr w') ∧
      (∀ (wr : World), Bs wr (.slice A1 l.length c1) l → Calls Try.prog 9 #[.int .i64 b.length, .agg #[.int .i64 at', .int .i64 del, .slice A1 l.length c1]] wr fun e w' => ∃ v', e = .returned (.agg #[.int .i64 p, .int .i64 d, v']) ∧ Bs w' v' l ∧ Kept wr w') ∧
      (∀ (wr : World), Bs wr (.slice A1 l.length c1) l → Calls Try.prog 13 #[.int .i64 b.length, .agg #[.int .i64 at', .int .i64 del, .slice A1 l.length c1], .int .i64 x] wr fun e w' => e = .returned (.int .i64 to) ∧ Kept wr w') ∧
      ((p ≤ x ∧ x < p + d ∧ to = p) ∨ (x = p ∧ d = 0 ∧ to = x) ∨ (x < p ∧ to = x ∧ to < R.length ∧ R[to]? = b[x]?) ∨ (p + d ≤ x ∧ p < x ∧ to < R.length ∧ R[to]? = b[x]?)) := by
  have hp := cutI_bd at' b.length
  have hd' := cutI_bd del (b.length - cutI at' b.length)
  have HD := fun wr h h' => do_any A b.length c at' del (.slice A1 l.length c1) b l wr h h' (by omega) (by omega)
  have HC := fun wr h => clamp_any b.length at' del (.slice A1 l.length c1) l wr (by omega) (by omega) h (by omega)
  have HM := fun wr h => map_any b.length at' del x (.slice A1 l.length c1) l wr (by omega) (by omega) h
  have ex : cutI (x : Int) b.length = x := by unfold cutI; omega
  rw [ex] at HM
  generalize cutI at' b.length = p at *
  generalize cutI del (b.length - p) = d at *
  have hp2 := hp.2 (by omega)
  have hd2 := hd'.2 (by omega)
  obtain ⟨p, rfl⟩ := Int.eq_ofNat_of_zero_le hp.1
  obtain ⟨d, rfl⟩ := Int.eq_ofNat_of_zero_le hd'.1
  simp only [Int.toNat_natCast, List.append_assoc] at HD
  have hRl : (b.take p ++ (l ++ b.drop (p + d))).length + d = b.length + l.length := by simp; omega
  have hw : mapI p d l.length x = if (x : Int) ≤ p then (x : Int) else if (x : Int) < p + d then (p : Int) else (x : Int) - d + l.length := by
    unfold mapI
    split
    · rfl
    · split
      · rfl
      · unfold wrap64; omega
  by_cases h1 : x < p
  · refine ⟨p, d, x, _, by omega, hRl, by omega, HD, HC, ?_, .inr (.inr (.inl ⟨h1, rfl, by omega, done_left b l p d x (by omega) h1⟩))⟩
    rwa [hw, if_pos (by omega)] at HM
  · by_cases h2 : x < p + d
    · refine ⟨p, d, p, _, by omega, hRl, by omega, HD, HC, ?_, .inl ⟨by omega, h2, rfl⟩⟩
      by_cases h3 : x = p
      · subst h3; rwa [hw, if_pos (by omega)] at HM
      · rwa [hw, if_neg (by omega), if_pos (by omega)] at HM
    · by_cases h3 : x = p
      · refine ⟨p, d, x, _, by omega, hRl, by omega, HD, HC, ?_, .inr (.inl ⟨h3, by omega, rfl⟩)⟩
        rwa [hw, if_pos (by omega)] at HM
      · refine ⟨p, d, x - d + l.length, _, by omega, hRl, by omega, HD, HC, ?_, .inr (.inr (.inr ⟨by omega, by omega, by omega, done_right b l p d x (by omega) (by omega)⟩))⟩
        rw [hw, if_neg (by omega), if_neg (by omega)] at HM
        rwa [show ((x - d + l.length : Nat) : Int) = (x : Int) - d + l.length from by omega]

set_option maxHeartbeats 8000000 in
set_option maxRecDepth 100000 in
theorem lawMaps_any (A : Option Addr) (n c : Nat) (at' del x : Int) (v : Value) (b l : List UInt8) (w : World) (hb : Bs w (.slice A n c) b) (hv : Bs w v l) :
    Calls Try.prog 5 #[.slice A n c, .agg #[.int .i64 at', .int .i64 del, v], .int .i64 x] w fun e w' => e = .returned (.bool true) ∧ Kept w w' := by
  obtain ⟨A1, c1, rfl⟩ := hv.form
  obtain ⟨hn, hnc, hcm⟩ := hb.len
  subst hn
  by_cases hbig : b.length ≤ 1000
  case neg =>
    have hbig' : ¬ (b.length : Int) ≤ 1000 := by omega
    have HB := Lib.hid hb
    have HV := Lib.hid hv
    clear hb hv
    go_enter Try.func5, Try.ntmps5
    go_wp2_with fail
    refine (alive_any _).mono ?_
    rintro e w1 ⟨rfl, hk1⟩
    go_wp2_with fail
    go_ret
    exact ⟨rfl, ((Kept.refl _).alloc _).trans hk1⟩
  by_cases hbig2 : l.length ≤ 1000
  case neg =>
    have hbig' : ¬ (l.length : Int) ≤ 1000 := by omega
    have HB := Lib.hid hb
    have HV := Lib.hid hv
    clear hb hv
    go_enter Try.func5, Try.ntmps5
    go_wp2_with fail
    refine (alive_any _).mono ?_
    rintro e w1 ⟨rfl, hk1⟩
    obtain ⟨⟨hc0, hc1, hc2⟩, _⟩ := box3 (Kept.blk hk1 (blk_new w _))
    go_wp2_with fail
    go_ret
    exact ⟨rfl, ((Kept.refl _).alloc _).trans hk1⟩
  by_cases hx0 : x < 0
  case pos =>
    have HB := Lib.hid hb
    have HV := Lib.hid hv
    clear hb hv
    go_enter Try.func5, Try.ntmps5
    go_wp2_with fail
    refine (alive_any _).mono ?_
    rintro e w1 ⟨rfl, hk1⟩
    obtain ⟨⟨hc0, hc1, hc2⟩, _⟩ := box3 (Kept.blk hk1 (blk_new w _))
    go_wp2_with fail
    go_ret
    exact ⟨rfl, ((Kept.refl _).alloc _).trans hk1⟩
  by_cases hx1 : x < b.length
  case neg =>
    have HB := Lib.hid hb
    have HV := Lib.hid hv
    clear hb hv
    go_enter Try.func5, Try.ntmps5
    go_wp2_with fail
    refine (alive_any _).mono ?_
    rintro e w1 ⟨rfl, hk1⟩
    obtain ⟨⟨hc0, hc1, hc2⟩, _⟩ := box3 (Kept.blk hk1 (blk_new w _))
    go_wp2_with fail
    go_ret
    exact ⟨rfl, ((Kept.refl _).alloc _).trans hk1⟩
  obtain ⟨x, rfl⟩ := Int.eq_ofNat_of_zero_le (show 0 ≤ x by omega)
  have hx : x < b.length := by omega
  have HB := Lib.hid hb
  have HV := Lib.hid hv
  clear hb hv
  obtain ⟨p, d, to, R, hpd, hRl, hto, HDO, HCL, HMP, hcase⟩ := maps_facts A c at' del A1 c1 b l x hx hbig hbig2
  have hne : (((R.length : Nat) : Int) != (b.length : Int) - d + l.length) = false := by simp; omega
  have HRL := Lib.hid hRl
  clear hRl
  rcases hcase with ⟨k1, k2, k3⟩ | ⟨k1, k2, k3⟩ | ⟨k1, k2, k3, k4⟩ | ⟨k1, k2, k3, k4⟩
  · have e1 : ((to : Int) == p) = true := by simp; omega
    have e2 : (p : Int) ≤ x := by omega
    have e3 : (x : Int) < p + d := by omega
    clear k1 k2 k3
    go_enter Try.func5, Try.ntmps5
    go_wp2_with fail
    refine (alive_any _).mono ?_
    rintro e w1 ⟨rfl, hk1⟩
    obtain ⟨⟨hc0, hc1, hc2⟩, hc3⟩ := box3 (Kept.blk hk1 (blk_new w _))
    have hkw1 : Kept w w1 := ((Kept.refl _).alloc _).trans hk1
    clear hc3
    go_wp2_with fail
    refine (HCL _ (HV.out.keep hkw1)).mono ?_
    rintro e w2 ⟨v', rfl, hb2, hk2⟩
    obtain ⟨A2, c2, rfl⟩ := hb2.form
    clear hb2
    obtain ⟨⟨hd0, hd1, hd2⟩, hd3⟩ := box3 (Kept.blk hk2 (Kept.blk hk1 (blk_new w _)))
    have hlt : w.heap.size < w2.heap.size := by have := hk2.size; have := hk1.size; simp at this; omega
    clear hd3 hc0 hc1 hc2
    go_wp2_with fail
    refine (HDO _ (HB.out.keep (hkw1.trans (hk2.alloc _))) (HV.out.keep (hkw1.trans (hk2.alloc _)))).mono ?_
    rintro e w3 ⟨v', rfl, hb3, hk3⟩
    obtain ⟨A3, c3, rfl⟩ := hb3.form
    have HB3 := Lib.hid hb3
    clear hb3
    obtain ⟨⟨he0, he1, he2⟩, he3⟩ := box3 (Kept.blk hk3 (blk_new w2 _))
    obtain ⟨⟨hf0, hf1, hf2⟩, hf3⟩ := box3 (Kept.blk hk3 (blk_old w2 _ (Kept.blk hk2 (Kept.blk hk1 (blk_new w _)))))
    clear he3 hf3 hd0 hd1 hd2
    go_wp2_with fail
    refine (HMP _ (HV.out.keep (hkw1.trans ((hk2.alloc _).trans hk3)))).mono ?_
    rintro e w4 ⟨rfl, hk4⟩
    obtain ⟨⟨hg0, hg1, hg2⟩, hg3⟩ := box3 (Kept.blk hk4 (Kept.blk hk3 (blk_new w2 _)))
    clear hg3 he0 he1 he2 hf0 hf1 hf2
    have hkf : Kept w w4 := hkw1.trans ((hk2.alloc _).trans (hk3.trans hk4))
    go_wp2_with fail
    go_ret
    exact ⟨rfl, hkf⟩

  · have e1 : ((x : Int) == p) = true := by simp; omega
    have e2 : (p : Int) ≤ x := by omega
    have e3 : ¬ (x : Int) < p + d := by omega
    have e4 : ((d : Int) == 0) = true := by simp; omega
    have e5 : ((to : Int) == x) = true := by simp; omega
    clear k1 k2 k3
    go_enter Try.func5, Try.ntmps5
    go_wp2_with fail
    refine (alive_any _).mono ?_
    rintro e w1 ⟨rfl, hk1⟩
    obtain ⟨⟨hc0, hc1, hc2⟩, hc3⟩ := box3 (Kept.blk hk1 (blk_new w _))
    have hkw1 : Kept w w1 := ((Kept.refl _).alloc _).trans hk1
    clear hc3
    go_wp2_with fail
    refine (HCL _ (HV.out.keep hkw1)).mono ?_
    rintro e w2 ⟨v', rfl, hb2, hk2⟩
    obtain ⟨A2, c2, rfl⟩ := hb2.form
    clear hb2
    obtain ⟨⟨hd0, hd1, hd2⟩, hd3⟩ := box3 (Kept.blk hk2 (Kept.blk hk1 (blk_new w _)))
    have hlt : w.heap.size < w2.heap.size := by have := hk2.size; have := hk1.size; simp at this; omega
    clear hd3 hc0 hc1 hc2
    go_wp2_with fail
    refine (HDO _ (HB.out.keep (hkw1.trans (hk2.alloc _))) (HV.out.keep (hkw1.trans (hk2.alloc _)))).mono ?_
    rintro e w3 ⟨v', rfl, hb3, hk3⟩
    obtain ⟨A3, c3, rfl⟩ := hb3.form
    have HB3 := Lib.hid hb3
    clear hb3
    obtain ⟨⟨he0, he1, he2⟩, he3⟩ := box3 (Kept.blk hk3 (blk_new w2 _))
    obtain ⟨⟨hf0, hf1, hf2⟩, hf3⟩ := box3 (Kept.blk hk3 (blk_old w2 _ (Kept.blk hk2 (Kept.blk hk1 (blk_new w _)))))
    clear he3 hf3 hd0 hd1 hd2
    go_wp2_with fail
    refine (HMP _ (HV.out.keep (hkw1.trans ((hk2.alloc _).trans hk3)))).mono ?_
    rintro e w4 ⟨rfl, hk4⟩
    obtain ⟨⟨hg0, hg1, hg2⟩, hg3⟩ := box3 (Kept.blk hk4 (Kept.blk hk3 (blk_new w2 _)))
    clear hg3 he0 he1 he2 hf0 hf1 hf2
    have hkf : Kept w w4 := hkw1.trans ((hk2.alloc _).trans (hk3.trans hk4))
    go_wp2_with fail
    go_ret
    exact ⟨rfl, hkf⟩

  · have e1 : ((x : Int) == p) = false := by simp; omega
    have e2 : ¬ (p : Int) ≤ x := by omega
    have HEQ := Lib.hid k4
    clear k1 k2 k4
    go_enter Try.func5, Try.ntmps5
    go_wp2_with fail
    refine (alive_any _).mono ?_
    rintro e w1 ⟨rfl, hk1⟩
    obtain ⟨⟨hc0, hc1, hc2⟩, hc3⟩ := box3 (Kept.blk hk1 (blk_new w _))
    have hkw1 : Kept w w1 := ((Kept.refl _).alloc _).trans hk1
    clear hc3
    go_wp2_with fail
    refine (HCL _ (HV.out.keep hkw1)).mono ?_
    rintro e w2 ⟨v', rfl, hb2, hk2⟩
    obtain ⟨A2, c2, rfl⟩ := hb2.form
    clear hb2
    obtain ⟨⟨hd0, hd1, hd2⟩, hd3⟩ := box3 (Kept.blk hk2 (Kept.blk hk1 (blk_new w _)))
    have hlt : w.heap.size < w2.heap.size := by have := hk2.size; have := hk1.size; simp at this; omega
    clear hd3 hc0 hc1 hc2
    go_wp2_with fail
    refine (HDO _ (HB.out.keep (hkw1.trans (hk2.alloc _))) (HV.out.keep (hkw1.trans (hk2.alloc _)))).mono ?_
    rintro e w3 ⟨v', rfl, hb3, hk3⟩
    obtain ⟨A3, c3, rfl⟩ := hb3.form
    have HB3 := Lib.hid hb3
    clear hb3
    obtain ⟨⟨he0, he1, he2⟩, he3⟩ := box3 (Kept.blk hk3 (blk_new w2 _))
    obtain ⟨⟨hf0, hf1, hf2⟩, hf3⟩ := box3 (Kept.blk hk3 (blk_old w2 _ (Kept.blk hk2 (Kept.blk hk1 (blk_new w _)))))
    clear he3 hf3 hd0 hd1 hd2
    go_wp2_with fail
    refine (HMP _ (HV.out.keep (hkw1.trans ((hk2.alloc _).trans hk3)))).mono ?_
    rintro e w4 ⟨rfl, hk4⟩
    obtain ⟨⟨hg0, hg1, hg2⟩, hg3⟩ := box3 (Kept.blk hk4 (Kept.blk hk3 (blk_new w2 _)))
    clear hg3 he0 he1 he2 hf0 hf1 hf2
    have hkf : Kept w w4 := hkw1.trans ((hk2.alloc _).trans (hk3.trans hk4))
    go_wp2_with fail
    have HB4 := Lib.hid (HB3.out.keep hk4)
    have HBW := Lib.hid (HB.out.keep hkf)
    clear HB3
    obtain ⟨u, hu⟩ : ∃ u, b[x]? = some u := ⟨_, List.getElem?_eq_getElem hx⟩
    have huR : R[to]? = some u := HEQ.out.trans hu
    obtain ⟨_, _, he, q1, q2, hcR⟩ := HB4.out
    cases he
    clear q1 q2
    obtain ⟨ad3, rfl, hcell3⟩ := hcR to u huR
    obtain ⟨_, _, he, q1, q2, hcB⟩ := HBW.out
    cases he
    clear q1 q2
    obtain ⟨ad, rfl, hcell⟩ := hcB x u hu
    clear hcR hcB hu huR
    generalize w4 = W at *
    refine wp_abs (fun a => a.tmps.size = 134 ∧ a.defers = [] ∧ a.eval (.tmp 0) = .slice (some ad) b.length c ∧ a.eval (.tmp 2) = .int .i64 x ∧ a.eval (.tmp 9) = .slice (some ad3) R.length c3 ∧ a.eval (.tmp 10) = .int .i64 to) ⟨rfl, rfl, rfl, rfl, rfl, rfl⟩ ?_
    rintro a0 ⟨hsz, hdef, h0, h2, h9, h10⟩
    have hkW : ∀ wr, W.drew.grownBy wr none → Kept W wr := fun wr hg => (Kept.drew (Kept.refl _)).trans (Kept.of_grown hg)
    have L1 : ∀ wr, W.drew.grownBy wr none → wr.cell? (ad3.add to) = some (bv u) := fun wr hg => (hkW wr hg).cell hcell3
    have L2 : ∀ wr, W.drew.grownBy wr none → wr.cell? (ad.add x) = some (bv u) := fun wr hg => (hkW wr hg).cell hcell
    clear hkW hcell hcell3 HB4 HBW HDO HCL HMP hk1 hk2 hk3 hk4 hkw1

    refine wp_region_plan none (vat [isv (.int .i64 to),
        isv (.slice (some ad3) R.length c3),
        isv (.int .i64 R.length),
        isv (.bool true),
        isv (.bool true),
        isv (.slice (some ad3) R.length c3),
        isv (.int .i64 to),
        isv (.pointer (some (ad3.add to))),
        isv (bv u),
        isv (.slice (some ad) b.length c),
        isv (.int .i64 x),
        isv (.pointer (some (ad.add x))),
        isv (bv u),
        isv (.bool true),
        isv (.bool true)])
      (fun u w' => u = .bool true ∧ (World.drew W).grownBy w' none)
      [([(10, none)], none), ([(9, none)], none), ([(120, some 1)], none), ([(119, some 0), (121, some 2)], none), ([(122, some 3)], none), ([(9, none), (123, some 4)], some (123, true)), ([(10, none), (123, some 4)], some (123, true)), ([(124, some 5), (125, some 6), (123, some 4)], some (123, true)), ([(126, some 7), (123, some 4)], some (123, true)), ([(0, none), (123, some 4)], some (123, true)), ([(2, none), (123, some 4)], some (123, true)), ([(128, some 9), (129, some 10), (123, some 4)], some (123, true)), ([(130, some 11), (123, some 4)], some (123, true)), ([(127, some 8), (131, some 12), (123, some 4)], some (123, true)), ([(123, some 4), (132, some 13)], none), ([(133, some 14)], none)]
      (by kernel_rfl) 134 hsz (by kernel_rfl) (by kernel_rfl) (by decide) ?st ?steps ?fin
    case st =>
      refine stays_vat _ _ fun q hq => ?_
      simp only [List.mem_cons, List.not_mem_nil, or_false] at hq
      rcases hq with rfl | rfl | rfl | rfl | rfl | rfl | rfl | rfl | rfl | rfl | rfl | rfl | rfl | rfl | rfl
      all_goals first | exact stays_isv _ _ | skip
    case fin =>
      rintro a o u w' hL ho ⟨rfl, hg⟩
      simp at ho
      subst ho
      rename_i K hK
      exact hK _ _ (ret_slot (d := 6) rfl (Nat.lt_of_lt_of_eq (by decide : 6 < 134) (hL.tsize.trans hsz).symm) (hL.defers.trans hdef) ⟨rfl, hkf.trans ((Kept.drew (Kept.refl _)).trans (Kept.of_grown hg))⟩)
    case steps =>
      refine ⟨?_, ?_, ?_, ?_, ?_, ?_, ?_, ?_, ?_, ?_, ?_, ?_, ?_, ?_, ?_, ?_⟩
      all_goals
        intro ρ wr hg hn hc hf hgl
        simp only [Need, vat, List.getD_cons_zero, List.getD_cons_succ, isv, and_true, h0, h2, h9, h10] at hn ⊢
      · simp [wantP, execOp, Ups, hn, hc, grown_refl, go_sem]
      · simp [wantP, execOp, Ups, hn, hc, grown_refl, go_sem]
      · simp [wantP, execOp, Ups, hn, hc, grown_refl, go_sem]
      · obtain ⟨n1, n2⟩ := hn
        have : (to : Int) < R.length := by omega
        simp only [wantP, if_true]
        unfold execOp
        go_simp
        exact ⟨rfl, grown_refl _ _⟩
      · simp [wantP, execOp, Ups, hn, hc, grown_refl, go_sem]
      · simp [wantP, execOp, Ups, hn, hc, grown_refl, go_sem]
      · simp [wantP, execOp, Ups, hn, hc, grown_refl, go_sem]
      · obtain ⟨n1, n2, n9⟩ := hn
        have : (0 : Int) ≤ to := by omega
        have : (to : Int) < R.length := by omega
        simp only [wantP, if_true, n9, beq_self_eq_true]
        unfold execOp
        go_simp
        exact ⟨rfl, grown_refl _ _⟩
      · obtain ⟨n1, n9⟩ := hn
        have q0 := L1 wr hg
        simp only [wantP, if_true, n9, beq_self_eq_true]
        unfold execOp
        go_simp
        exact ⟨rfl, grown_refl _ _⟩
      · simp [wantP, execOp, Ups, hn, hc, grown_refl, go_sem]
      · simp [wantP, execOp, Ups, hn, hc, grown_refl, go_sem]
      · obtain ⟨n1, n2, n9⟩ := hn
        have : (0 : Int) ≤ x := by omega
        have : (x : Int) < b.length := by omega
        simp only [wantP, if_true, n9, beq_self_eq_true]
        unfold execOp
        go_simp
        exact ⟨rfl, grown_refl _ _⟩
      · obtain ⟨n1, n9⟩ := hn
        have q0 := L2 wr hg
        simp only [wantP, if_true, n9, beq_self_eq_true]
        unfold execOp
        go_simp
        exact ⟨rfl, grown_refl _ _⟩
      · obtain ⟨n1, n2, n9⟩ := hn
        simp only [bv] at n1 n2
        simp only [wantP, if_true, n9, beq_self_eq_true]
        unfold execOp
        go_simp
        exact ⟨rfl, grown_refl _ _⟩
      · simp [wantP, execOp, Ups, hn, hc, grown_refl, go_sem]
      · simp [wantP, execOp, Ups, hn, hg, go_sem]
  · have e1 : ((x : Int) == p) = false := by simp; omega
    have e2 : (p : Int) ≤ x := by omega
    have e3 : ¬ (x : Int) < p + d := by omega
    have HEQ := Lib.hid k4
    clear k1 k2 k4
    go_enter Try.func5, Try.ntmps5
    go_wp2_with fail
    refine (alive_any _).mono ?_
    rintro e w1 ⟨rfl, hk1⟩
    obtain ⟨⟨hc0, hc1, hc2⟩, hc3⟩ := box3 (Kept.blk hk1 (blk_new w _))
    have hkw1 : Kept w w1 := ((Kept.refl _).alloc _).trans hk1
    clear hc3
    go_wp2_with fail
    refine (HCL _ (HV.out.keep hkw1)).mono ?_
    rintro e w2 ⟨v', rfl, hb2, hk2⟩
    obtain ⟨A2, c2, rfl⟩ := hb2.form
    clear hb2
    obtain ⟨⟨hd0, hd1, hd2⟩, hd3⟩ := box3 (Kept.blk hk2 (Kept.blk hk1 (blk_new w _)))
    have hlt : w.heap.size < w2.heap.size := by have := hk2.size; have := hk1.size; simp at this; omega
    clear hd3 hc0 hc1 hc2
    go_wp2_with fail
    refine (HDO _ (HB.out.keep (hkw1.trans (hk2.alloc _))) (HV.out.keep (hkw1.trans (hk2.alloc _)))).mono ?_
    rintro e w3 ⟨v', rfl, hb3, hk3⟩
    obtain ⟨A3, c3, rfl⟩ := hb3.form
    have HB3 := Lib.hid hb3
    clear hb3
    obtain ⟨⟨he0, he1, he2⟩, he3⟩ := box3 (Kept.blk hk3 (blk_new w2 _))
    obtain ⟨⟨hf0, hf1, hf2⟩, hf3⟩ := box3 (Kept.blk hk3 (blk_old w2 _ (Kept.blk hk2 (Kept.blk hk1 (blk_new w _)))))
    clear he3 hf3 hd0 hd1 hd2
    go_wp2_with fail
    refine (HMP _ (HV.out.keep (hkw1.trans ((hk2.alloc _).trans hk3)))).mono ?_
    rintro e w4 ⟨rfl, hk4⟩
    obtain ⟨⟨hg0, hg1, hg2⟩, hg3⟩ := box3 (Kept.blk hk4 (Kept.blk hk3 (blk_new w2 _)))
    clear hg3 he0 he1 he2 hf0 hf1 hf2
    have hkf : Kept w w4 := hkw1.trans ((hk2.alloc _).trans (hk3.trans hk4))
    go_wp2_with fail
    have HB4 := Lib.hid (HB3.out.keep hk4)
    have HBW := Lib.hid (HB.out.keep hkf)
    clear HB3
    obtain ⟨u, hu⟩ : ∃ u, b[x]? = some u := ⟨_, List.getElem?_eq_getElem hx⟩
    have huR : R[to]? = some u := HEQ.out.trans hu
    obtain ⟨_, _, he, q1, q2, hcR⟩ := HB4.out
    cases he
    clear q1 q2
    obtain ⟨ad3, rfl, hcell3⟩ := hcR to u huR
    obtain ⟨_, _, he, q1, q2, hcB⟩ := HBW.out
    cases he
    clear q1 q2
    obtain ⟨ad, rfl, hcell⟩ := hcB x u hu
    clear hcR hcB hu huR
    generalize w4 = W at *
    refine wp_abs (fun a => a.tmps.size = 134 ∧ a.defers = [] ∧ a.eval (.tmp 0) = .slice (some ad) b.length c ∧ a.eval (.tmp 2) = .int .i64 x ∧ a.eval (.tmp 9) = .slice (some ad3) R.length c3 ∧ a.eval (.tmp 10) = .int .i64 to) ⟨rfl, rfl, rfl, rfl, rfl, rfl⟩ ?_
    rintro a0 ⟨hsz, hdef, h0, h2, h9, h10⟩
    have hkW : ∀ wr, W.drew.grownBy wr none → Kept W wr := fun wr hg => (Kept.drew (Kept.refl _)).trans (Kept.of_grown hg)
    have L1 : ∀ wr, W.drew.grownBy wr none → wr.cell? (ad3.add to) = some (bv u) := fun wr hg => (hkW wr hg).cell hcell3
    have L2 : ∀ wr, W.drew.grownBy wr none → wr.cell? (ad.add x) = some (bv u) := fun wr hg => (hkW wr hg).cell hcell
    clear hkW hcell hcell3 HB4 HBW HDO HCL HMP hk1 hk2 hk3 hk4 hkw1

    refine wp_region_plan none (vat [isv (.int .i64 to),
        isv (.slice (some ad3) R.length c3),
        isv (.int .i64 R.length),
        isv (.bool true),
        isv (.bool true),
        isv (.slice (some ad3) R.length c3),
        isv (.int .i64 to),
        isv (.pointer (some (ad3.add to))),
        isv (bv u),
        isv (.slice (some ad) b.length c),
        isv (.int .i64 x),
        isv (.pointer (some (ad.add x))),
        isv (bv u),
        isv (.bool true),
        isv (.bool true)])
      (fun u w' => u = .bool true ∧ (World.drew W).grownBy w' none)
      [([(10, none)], none), ([(9, none)], none), ([(120, some 1)], none), ([(119, some 0), (121, some 2)], none), ([(122, some 3)], none), ([(9, none), (123, some 4)], some (123, true)), ([(10, none), (123, some 4)], some (123, true)), ([(124, some 5), (125, some 6), (123, some 4)], some (123, true)), ([(126, some 7), (123, some 4)], some (123, true)), ([(0, none), (123, some 4)], some (123, true)), ([(2, none), (123, some 4)], some (123, true)), ([(128, some 9), (129, some 10), (123, some 4)], some (123, true)), ([(130, some 11), (123, some 4)], some (123, true)), ([(127, some 8), (131, some 12), (123, some 4)], some (123, true)), ([(123, some 4), (132, some 13)], none), ([(133, some 14)], none)]
      (by kernel_rfl) 134 hsz (by kernel_rfl) (by kernel_rfl) (by decide) ?st ?steps ?fin
    case st =>
      refine stays_vat _ _ fun q hq => ?_
      simp only [List.mem_cons, List.not_mem_nil, or_false] at hq
      rcases hq with rfl | rfl | rfl | rfl | rfl | rfl | rfl | rfl | rfl | rfl | rfl | rfl | rfl | rfl | rfl
      all_goals first | exact stays_isv _ _ | skip
    case fin =>
      rintro a o u w' hL ho ⟨rfl, hg⟩
      simp at ho
      subst ho
      rename_i K hK
      exact hK _ _ (ret_slot (d := 6) rfl (Nat.lt_of_lt_of_eq (by decide : 6 < 134) (hL.tsize.trans hsz).symm) (hL.defers.trans hdef) ⟨rfl, hkf.trans ((Kept.drew (Kept.refl _)).trans (Kept.of_grown hg))⟩)
    case steps =>
      refine ⟨?_, ?_, ?_, ?_, ?_, ?_, ?_, ?_, ?_, ?_, ?_, ?_, ?_, ?_, ?_, ?_⟩
      all_goals
        intro ρ wr hg hn hc hf hgl
        simp only [Need, vat, List.getD_cons_zero, List.getD_cons_succ, isv, and_true, h0, h2, h9, h10] at hn ⊢
      · simp [wantP, execOp, Ups, hn, hc, grown_refl, go_sem]
      · simp [wantP, execOp, Ups, hn, hc, grown_refl, go_sem]
      · simp [wantP, execOp, Ups, hn, hc, grown_refl, go_sem]
      · obtain ⟨n1, n2⟩ := hn
        have : (to : Int) < R.length := by omega
        simp only [wantP, if_true]
        unfold execOp
        go_simp
        exact ⟨rfl, grown_refl _ _⟩
      · simp [wantP, execOp, Ups, hn, hc, grown_refl, go_sem]
      · simp [wantP, execOp, Ups, hn, hc, grown_refl, go_sem]
      · simp [wantP, execOp, Ups, hn, hc, grown_refl, go_sem]
      · obtain ⟨n1, n2, n9⟩ := hn
        have : (0 : Int) ≤ to := by omega
        have : (to : Int) < R.length := by omega
        simp only [wantP, if_true, n9, beq_self_eq_true]
        unfold execOp
        go_simp
        exact ⟨rfl, grown_refl _ _⟩
      · obtain ⟨n1, n9⟩ := hn
        have q0 := L1 wr hg
        simp only [wantP, if_true, n9, beq_self_eq_true]
        unfold execOp
        go_simp
        exact ⟨rfl, grown_refl _ _⟩
      · simp [wantP, execOp, Ups, hn, hc, grown_refl, go_sem]
      · simp [wantP, execOp, Ups, hn, hc, grown_refl, go_sem]
      · obtain ⟨n1, n2, n9⟩ := hn
        have : (0 : Int) ≤ x := by omega
        have : (x : Int) < b.length := by omega
        simp only [wantP, if_true, n9, beq_self_eq_true]
        unfold execOp
        go_simp
        exact ⟨rfl, grown_refl _ _⟩
      · obtain ⟨n1, n9⟩ := hn
        have q0 := L2 wr hg
        simp only [wantP, if_true, n9, beq_self_eq_true]
        unfold execOp
        go_simp
        exact ⟨rfl, grown_refl _ _⟩
      · obtain ⟨n1, n2, n9⟩ := hn
        simp only [bv] at n1 n2
        simp only [wantP, if_true, n9, beq_self_eq_true]
        unfold execOp
        go_simp
        exact ⟨rfl, grown_refl _ _⟩
      · simp [wantP, execOp, Ups, hn, hc, grown_refl, go_sem]
      · simp [wantP, execOp, Ups, hn, hg, go_sem]
end Go.Proofs.Ytbpgbelfgigogaa
