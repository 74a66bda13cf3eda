/-
  What splice.Back does, on values and memory.
-/
import Derived.Test.YtbpgbelfgigogaaMap
set_option linter.unusedSimpArgs false
namespace Go.Proofs.Ytbpgbelfgigogaa
open Go Go.RowKit Kit
set_option maxHeartbeats 1000000 in
theorem back_any (A : Option Addr) (n c : Nat) (at' del : Int) (v : Value) (b l : List UInt8) (w : World) (hb : Bs w (.slice A n c) b) (hv : Bs w v l) (hbl : b.length ≤ 100000000000000) :
    Calls Try.prog 15 #[.slice A n c, .agg #[.int .i64 at', .int .i64 del, v]] w fun e w' => ∃ v', e = .returned (.agg #[.int .i64 (cutI at' b.length), .int .i64 l.length, v']) ∧ Bs w' v' ((b.take ((cutI at' b.length).toNat + (cutI del (b.length - cutI at' b.length)).toNat)).drop (cutI at' b.length).toNat) ∧ Kept w w' := by
  obtain ⟨A1, c1, rfl⟩ := hv.form
  obtain ⟨hn, hnc, hcm⟩ := hb.len
  subst hn
  have HR := fun w' : World => Lib.hid (reach_any b.length at' del (.slice A1 l.length c1) w' (by omega) (by omega))
  have hp := cutI_bd at' b.length
  generalize cutI at' b.length = p at *
  have hd := cutI_bd del (b.length - p)
  generalize cutI del (b.length - p) = d at *
  have hp2 := hp.2 (by omega)
  have hd2 := hd.2 (by omega)
  obtain ⟨p, rfl⟩ := Int.eq_ofNat_of_zero_le hp.1
  obtain ⟨d, rfl⟩ := Int.eq_ofNat_of_zero_le hd.1
  clear hp hd
  simp only [Int.toNat_natCast]
  have hcut := hb.cut (lo := p) (hi := p + d) (m := c) (by omega) (by omega) (by omega) (by omega)
  rw [Nat.add_sub_cancel_left] at hcut
  have HB := Lib.hid hcut
  clear hcut
  have hml : ((b.take (p + d)).drop p).length ≤ 100000000000000 := by simp; omega
  generalize (b.take (p + d)).drop p = mid at *
  clear hb hv
  go_enter Try.func15, Try.ntmps15
  go_wp2_with fail
  refine (HR _).out.mono ?_
  rintro e w1 ⟨rfl, hk1⟩
  go_wp2_with fail
  refine wp_abs (fun a => a.tmps.size = 26 ∧ a.defers = [] ∧ a.eval (.tmp 0) = .slice A b.length c ∧ a.eval (.tmp 3) = .pointer (some ⟨w.heap.size, 0, none⟩) ∧ a.eval (.tmp 4) = .pointer (some ⟨w.heap.size + 1, 0, none⟩) ∧ a.eval (.tmp 5) = .int .i64 p ∧ a.eval (.tmp 6) = .int .i64 d) ⟨rfl, rfl, rfl, rfl, rfl, rfl, rfl⟩ ?_
  rintro a0 ⟨hsz, hdef, h0, h3, h4, h5, h6⟩
  have hkw : ∀ wr, w1.drew.grownBy wr none → Kept w1 wr := fun wr hg => (Kept.drew (Kept.refl _)).trans (Kept.of_grown hg)
  have hkw1 : Kept w w1 := (((Kept.refl _).alloc _).alloc _).trans hk1
  have L3 : ∀ wr, w1.drew.grownBy wr none → wr.cell? ⟨w.heap.size, 0, none⟩ = some (.int .i64 at') ∧ wr.cell? ⟨w.heap.size, 1, none⟩ = some (.int .i64 del) ∧ wr.cell? ⟨w.heap.size, 2, none⟩ = some (.slice A1 l.length c1) := fun wr hg => (box3 (Kept.blk (hkw wr hg) (Kept.blk hk1 (blk_old _ _ (blk_new w _))))).1
  have LK : ∀ wr, w1.drew.grownBy wr none → wr.heap[w.heap.size + 1]? = some (.cells #[.int .i64 0, .int .i64 0, .slice none 0 0] 24 (0, 0)) := fun wr hg => by
    have h := Kept.blk (hkw wr hg) (Kept.blk hk1 (blk_new (w.alloc _) _))
    rw [World.size_alloc] at h
    exact h
  have HBC : ∀ wr, w1.drew.grownBy wr none → Bs wr (.slice (if c = p then A else A.map (·.add p)) d (c - p)) mid := fun wr hg => HB.out.keep (hkw1.trans (hkw wr hg))
  have KF : ∀ wr, w1.drew.grownBy wr none → ∀ x y z, Kept w (((wr.setCell ⟨w.heap.size + 1, 0, none⟩ x).setCell ⟨w.heap.size + 1, 1, none⟩ y).setCell ⟨w.heap.size + 1, 2, none⟩ z) := fun wr hg x y z =>
    (((hkw1.trans (hkw wr hg)).setCell (by simp) _).setCell (by simp) _).setCell (by simp) _
  clear HR hk1 hkw hkw1 HB
  refine wp_region_plan none (vat [isv (.int .i64 p),
      isv (.pointer (some ⟨w.heap.size, 2, none⟩)),
      isv (.slice A1 l.length c1),
      isv (.int .i64 l.length),
      isv (.slice A b.length c),
      isv (.int .i64 p),
      isv (.int .i64 p),
      isv (.int .i64 d),
      isv (.int .i64 (p + d)),
      isv (.slice (if c = p then A else A.map (·.add p)) d (c - p)),
      fun u w' => Bs w' u mid,
      fun u w' => ∃ v', u = .agg #[.int .i64 p, .int .i64 l.length, v'] ∧ Bs w' v' mid])
    (fun _ w' => ∃ v', Bs w' v' mid ∧ w'.heap[w.heap.size + 1]? = some (.cells #[.int .i64 p, .int .i64 l.length, v'] 24 (0, 0)) ∧ Kept w w')
    [([(5, none)], none), ([(3, none)], none), ([(15, some 1)], none), ([(16, some 2)], none), ([(0, none)], none), ([(5, none)], none), ([(5, none)], none), ([(6, none)], none), ([(20, some 6), (21, some 7)], none), ([(18, some 4), (19, some 5), (22, some 8)], none), ([(23, some 9)], none), ([(14, some 0), (17, some 3), (24, some 10)], none), ([(4, none), (25, some 11)], none)]
    (by kernel_rfl) 26 hsz (by kernel_rfl) (by kernel_rfl) (by decide) ?st ?steps ?fin
  case st =>
    refine stays_vat _ _ fun q hq => ?_
    simp only [List.mem_cons, List.not_mem_nil, or_false] at hq
    rcases hq with rfl | rfl | rfl | rfl | rfl | rfl | rfl | rfl | rfl | rfl | rfl | rfl
    all_goals first | exact stays_isv _ _ | (rintro u x y hg ⟨v', rfl, h⟩; exact ⟨v', rfl, h.keep (Kept.of_grown hg)⟩) | (intro u x y hg h; exact Bs.keep h (Kept.of_grown hg))
  case fin =>
    rintro a o u w' hL ho ⟨v', hb', hk', hkf⟩
    simp at ho
    subst ho
    rename_i K hK
    obtain ⟨A3, c3, rfl⟩ := hb'.form
    obtain ⟨⟨d0, d1, d2⟩, _⟩ := box3 hk'
    refine hK _ _ (ret_cell (d := 4) (t := 24) (k := w.heap.size + 1) (v := .agg #[.int .i64 p, .int .i64 l.length, .slice A3 mid.length c3]) rfl ((hL.rest 4 (by simp)).trans h4) (hL.defers.trans hdef) ?_ ⟨_, rfl, hb', hkf⟩)
    simp [go_sem, d0, d1, d2]
  case steps =>
    refine ⟨?_, ?_, ?_, ?_, ?_, ?_, ?_, ?_, ?_, ?_, ?_, ?_, ?_⟩
    all_goals
      intro ρ wr hg hn hc hf hgl
      simp only [Need, vat, List.getD_cons_zero, List.getD_cons_succ, isv, and_true, h0, h3, h4, h5, h6] at hn ⊢
    · simp [wantP, execOp, Ups, hn, hc, grown_refl, go_sem]
    · simp [wantP, execOp, Ups, hn, hc, grown_refl, go_sem]
    · obtain ⟨q0, q1, q2⟩ := L3 wr hg
      simp only [wantP, if_true]
      unfold execOp
      go_simp
      exact ⟨rfl, grown_refl _ _⟩
    · simp [wantP, execOp, Ups, hn, hc, grown_refl, go_sem]
    · simp [wantP, execOp, Ups, hn, hc, grown_refl, go_sem]
    · simp [wantP, execOp, Ups, hn, hc, grown_refl, go_sem]
    · simp [wantP, execOp, Ups, hn, hc, grown_refl, go_sem]
    · simp [wantP, execOp, Ups, hn, hc, grown_refl, go_sem]
    · obtain ⟨n1, n2⟩ := hn
      simp only [wantP, if_true]
      unfold execOp
      go_simp
      exact ⟨by rw [IntWalk.i64_in _ (by omega)], grown_refl _ _⟩
    · obtain ⟨n1, n2, n3⟩ := hn
      have : (0 : Int) ≤ p := by omega
      have : (p : Int) ≤ (p : Int) + d := by omega
      have : (p : Int) + d ≤ c := by omega
      simp only [wantP, if_true]
      unfold execOp
      go_simp
      refine ⟨?_, grown_refl _ _⟩
      rw [show ((p : Int) + d).toNat = p + d from by omega, Nat.add_sub_cancel_left]
    · simp only [wantP, if_true]
      unfold execOp
      go_simp
      refine (fresh_any _ _ wr (HBC wr hg) (by omega)).mono ?_
      rintro e w3 ⟨v3, rfl, hb3, hk3⟩
      exact ⟨v3, rfl, hb3, hk3.grownBy _⟩
    · obtain ⟨n1, n2, n3⟩ := hn
      obtain ⟨A3, c3, hv3⟩ := n3.form
      have N3 := Lib.hid n3
      clear n3
      rw [hv3] at N3
      simp only [wantP, if_true]
      unfold execOp
      go_simp
      exact ⟨⟨_, rfl, N3.out⟩, grown_refl _ _⟩
    · obtain ⟨n1, v3, n2, n3⟩ := hn
      obtain ⟨A3, c3, rfl⟩ := n3.form
      have N3 := Lib.hid n3
      clear n3
      have hk := LK wr hg
      obtain ⟨⟨d0, d1, d2⟩, f0, f1, f2⟩ := box3 hk
      simp only [wantP, if_true]
      unfold execOp
      go_simp
      exact ⟨_, N3.out.set3 (fun c => by simp [bv]) hk _ _ _, blk_set3 hk _ _ _, KF wr hg _ _ _⟩
end Go.Proofs.Ytbpgbelfgigogaa
