/-
  What the document's own answers on splices are, on values and memory: Back, Do, Map.
-/
import Derived.Test.YtbpgbelfgigogaaRef
set_option linter.unusedSimpArgs false
namespace Go.Proofs.Ytbpgbelfgigogaa
open Go Go.RowKit Kit

set_option maxHeartbeats 2000000 in
theorem refback_any (A : Option Addr) (n c : Nat) (at' del : Int) (v : Value) (b l : List UInt8) (w : World) (hb : Bs w (.slice A n c) b) (hv : Bs w v l) (hbl : b.length ≤ 100000000000000) (hll : l.length ≤ 100000000000000) :
    Calls Try.prog 16 #[.slice A n c, .agg #[.int .i64 at', .int .i64 del, v]] w fun e w' => ∃ v', e = .returned (.agg #[.int .i64 (cutI at' b.length), .int .i64 l.length, v']) ∧ Bs w' v' ((b.take ((cutI at' b.length).toNat + (cutI del (b.length - cutI at' b.length)).toNat)).drop (cutI at' b.length).toNat) ∧ Kept w w' := by
  obtain ⟨A1, c1, rfl⟩ := hv.form
  obtain ⟨hn, hnc, hcm⟩ := hb.len
  subst hn
  have HC := fun (w' : World) h => Lib.hid (refclamp_any b.length at' del (.slice A1 l.length c1) l w' (by omega) (by omega) h (by omega))
  have hp := cutI_bd at' b.length
  generalize cutI at' b.length = p at *
  have hd := cutI_bd del (b.length - p)
  generalize cutI del (b.length - p) = d at *
  have hp2 := hp.2 (by omega)
  have hd2 := hd.2 (by omega)
  obtain ⟨p, rfl⟩ := Int.eq_ofNat_of_zero_le hp.1
  obtain ⟨d, rfl⟩ := Int.eq_ofNat_of_zero_le hd.1
  clear hp hd
  simp only [Int.toNat_natCast]
  have hcut := hb.cut (lo := p) (hi := p + d) (m := c) (by omega) (by omega) (by omega) (by omega)
  rw [Nat.add_sub_cancel_left] at hcut
  have HB := Lib.hid hcut
  clear hcut
  have hml : ((b.take (p + d)).drop p).length ≤ 100000000000000 := by simp; omega
  generalize (b.take (p + d)).drop p = mid at *
  have HV := Lib.hid hv
  clear hb hv
  go_enter Try.func16, Try.ntmps16
  go_wp2_with fail
  refine (HC _ (HV.out.keep (((Kept.refl _).alloc _).alloc _))).out.mono ?_
  rintro e w1 ⟨v', rfl, hb1, hk1⟩
  obtain ⟨A2, c2, rfl⟩ := hb1.form
  clear hb1
  go_wp2_with fail
  refine wp_abs (fun a => a.tmps.size = 26 ∧ a.defers = [] ∧ a.eval (.tmp 0) = .slice A b.length c ∧ a.eval (.tmp 4) = .pointer (some ⟨w.heap.size + 1, 0, none⟩) ∧ a.eval (.tmp 5) = .pointer (some ⟨w1.heap.size, 0, none⟩)) ⟨rfl, rfl, rfl, rfl, rfl⟩ ?_
  rintro a0 ⟨hsz, hdef, h0, h4, h5⟩
  have hkw1 : Kept w (w1.alloc (.cells #[.int .i64 p, .int .i64 d, .slice A2 l.length c2] 24)) := ((((Kept.refl _).alloc _).alloc _).trans hk1).alloc _
  have hW5 := blk_new w1 (.cells #[.int .i64 p, .int .i64 d, .slice A2 l.length c2] 24)
  have hW4 := blk_old w1 (.cells #[.int .i64 p, .int .i64 d, .slice A2 l.length c2] 24) (Kept.blk hk1 (blk_new (w.alloc _) _))
  rw [World.size_alloc] at hW4
  generalize w1.alloc (.cells #[.int .i64 p, .int .i64 d, .slice A2 l.length c2] 24) = W at *
  have hkW : ∀ wr, W.drew.grownBy wr none → Kept W wr := fun wr hg => (Kept.drew (Kept.refl _)).trans (Kept.of_grown hg)
  have L5 : ∀ wr, W.drew.grownBy wr none → wr.cell? ⟨w1.heap.size, 0, none⟩ = some (.int .i64 p) ∧ wr.cell? ⟨w1.heap.size, 1, none⟩ = some (.int .i64 d) ∧ wr.cell? ⟨w1.heap.size, 2, none⟩ = some (.slice A2 l.length c2) := fun wr hg => (box3 (Kept.blk (hkW wr hg) hW5)).1
  have LK : ∀ wr, W.drew.grownBy wr none → wr.heap[w.heap.size + 1]? = some (.cells #[.int .i64 0, .int .i64 0, .slice none 0 0] 24 (0, 0)) := fun wr hg => Kept.blk (hkW wr hg) hW4
  have HBC : ∀ wr, W.drew.grownBy wr none → Bs wr (.slice (if c = p then A else A.map (·.add p)) d (c - p)) mid := fun wr hg => HB.out.keep (hkw1.trans (hkW wr hg))
  have KF : ∀ wr, W.drew.grownBy wr none → ∀ x y z, Kept w (((wr.setCell ⟨w.heap.size + 1, 0, none⟩ x).setCell ⟨w.heap.size + 1, 1, none⟩ y).setCell ⟨w.heap.size + 1, 2, none⟩ z) := fun wr hg x y z =>
    (((hkw1.trans (hkW wr hg)).setCell (by simp) _).setCell (by simp) _).setCell (by simp) _
  clear HC hk1 hkW hkw1 HB HV hW4 hW5
  refine wp_region_plan none (vat [isv (.pointer (some ⟨w1.heap.size, 0, none⟩)),
      isv (.int .i64 p),
      isv (.pointer (some ⟨w1.heap.size, 2, none⟩)),
      isv (.slice A2 l.length c2),
      isv (.int .i64 l.length),
      isv (.slice A b.length c),
      isv (.pointer (some ⟨w1.heap.size, 0, none⟩)),
      isv (.int .i64 p),
      isv (.pointer (some ⟨w1.heap.size, 0, none⟩)),
      isv (.int .i64 p),
      isv (.pointer (some ⟨w1.heap.size, 1, none⟩)),
      isv (.int .i64 d),
      isv (.int .i64 (p + d)),
      isv (.slice (if c = p then A else A.map (·.add p)) d (c - p)),
      fun u w' => Bs w' u mid,
      fun u w' => ∃ v', u = .agg #[.int .i64 p, .int .i64 l.length, v'] ∧ Bs w' v' mid])
    (fun _ w' => ∃ v', Bs w' v' mid ∧ w'.heap[w.heap.size + 1]? = some (.cells #[.int .i64 p, .int .i64 l.length, v'] 24 (0, 0)) ∧ Kept w w')
    [([(5, none)], none), ([(10, some 0)], none), ([(5, none)], none), ([(12, some 2)], none), ([(13, some 3)], none), ([(0, none)], none), ([(5, none)], none), ([(16, some 6)], none), ([(5, none)], none), ([(18, some 8)], none), ([(5, none)], none), ([(20, some 10)], none), ([(19, some 9), (21, some 11)], none), ([(15, some 5), (17, some 7), (22, some 12)], none), ([(23, some 13)], none), ([(11, some 1), (14, some 4), (24, some 14)], none), ([(4, none), (25, some 15)], none)]
    (by kernel_rfl) 26 hsz (by kernel_rfl) (by kernel_rfl) (by decide) ?st ?steps ?fin
  case st =>
    refine stays_vat _ _ fun q hq => ?_
    simp only [List.mem_cons, List.not_mem_nil, or_false] at hq
    rcases hq with rfl | rfl | rfl | rfl | rfl | rfl | rfl | rfl | rfl | rfl | rfl | rfl | rfl | rfl | rfl | rfl
    all_goals first | exact stays_isv _ _ | (rintro u x y hg ⟨v', rfl, h⟩; exact ⟨v', rfl, h.keep (Kept.of_grown hg)⟩) | (intro u x y hg h; exact Bs.keep h (Kept.of_grown hg))
  case fin =>
    rintro a o u w' hL ho ⟨v', hb', hk', hkf⟩
    simp at ho
    subst ho
    rename_i K hK
    obtain ⟨A3, c3, rfl⟩ := hb'.form
    obtain ⟨⟨d0, d1, d2⟩, _⟩ := box3 hk'
    refine hK _ _ (ret_cell (d := 4) (t := 24) (k := w.heap.size + 1) (v := .agg #[.int .i64 p, .int .i64 l.length, .slice A3 mid.length c3]) rfl ((hL.rest 4 (by simp)).trans h4) (hL.defers.trans hdef) ?_ ⟨_, rfl, hb', hkf⟩)
    simp [go_sem, d0, d1, d2]
  case steps =>
    refine ⟨?_, ?_, ?_, ?_, ?_, ?_, ?_, ?_, ?_, ?_, ?_, ?_, ?_, ?_, ?_, ?_, ?_⟩
    all_goals
      intro ρ wr hg hn hc hf hgl
      simp only [Need, vat, List.getD_cons_zero, List.getD_cons_succ, isv, and_true, h0, h4, h5] at hn ⊢
    · simp [wantP, execOp, Ups, hn, hc, grown_refl, go_sem]
    · obtain ⟨q0, q1, q2⟩ := L5 wr hg
      simp only [wantP, if_true]
      unfold execOp
      go_simp
      exact ⟨rfl, grown_refl _ _⟩
    · simp [wantP, execOp, Ups, hn, hc, grown_refl, go_sem]
    · obtain ⟨q0, q1, q2⟩ := L5 wr hg
      simp only [wantP, if_true]
      unfold execOp
      go_simp
      exact ⟨rfl, grown_refl _ _⟩
    · simp [wantP, execOp, Ups, hn, hc, grown_refl, go_sem]
    · simp [wantP, execOp, Ups, hn, hc, grown_refl, go_sem]
    · simp [wantP, execOp, Ups, hn, hc, grown_refl, go_sem]
    · obtain ⟨q0, q1, q2⟩ := L5 wr hg
      simp only [wantP, if_true]
      unfold execOp
      go_simp
      exact ⟨rfl, grown_refl _ _⟩
    · simp [wantP, execOp, Ups, hn, hc, grown_refl, go_sem]
    · obtain ⟨q0, q1, q2⟩ := L5 wr hg
      simp only [wantP, if_true]
      unfold execOp
      go_simp
      exact ⟨rfl, grown_refl _ _⟩
    · simp [wantP, execOp, Ups, hn, hc, grown_refl, go_sem]
    · obtain ⟨q0, q1, q2⟩ := L5 wr hg
      simp only [wantP, if_true]
      unfold execOp
      go_simp
      exact ⟨rfl, grown_refl _ _⟩
    · obtain ⟨n1, n2⟩ := hn
      simp only [wantP, if_true]
      unfold execOp
      go_simp
      exact ⟨by rw [IntWalk.i64_in _ (by omega)], grown_refl _ _⟩
    · obtain ⟨n1, n2, n3⟩ := hn
      have : (0 : Int) ≤ p := by omega
      have : (p : Int) ≤ (p : Int) + d := by omega
      have : (p : Int) + d ≤ c := by omega
      simp only [wantP, if_true]
      unfold execOp
      go_simp
      refine ⟨?_, grown_refl _ _⟩
      rw [show ((p : Int) + d).toNat = p + d from by omega, Nat.add_sub_cancel_left]
    · obtain ⟨i0, hi, hz0, hz1, hz2⟩ := info_parts info5
      obtain ⟨v3, w3, hr3, hb3, hk3⟩ := run_fresh (P := Try.prog) wr 22 22 5 i0 _ Try.underlying22 hi hz0 hz1 hz2 rfl _ _ (HBC wr hg) (by omega)
      simp only [wantP, if_true]
      exact ups_app _ _ _ _ rfl _ _ (hc _) hn v3 w3 hr3 ⟨hb3, hk3.grownBy _⟩
    · obtain ⟨n1, n2, n3⟩ := hn
      obtain ⟨A3, c3, hv3⟩ := n3.form
      have N3 := Lib.hid n3
      clear n3
      rw [hv3] at N3
      simp only [wantP, if_true]
      unfold execOp
      go_simp
      exact ⟨⟨_, rfl, N3.out⟩, grown_refl _ _⟩
    · obtain ⟨n1, v3, n2, n3⟩ := hn
      obtain ⟨A3, c3, rfl⟩ := n3.form
      have N3 := Lib.hid n3
      clear n3
      have hk := LK wr hg
      obtain ⟨⟨d0, d1, d2⟩, f0, f1, f2⟩ := box3 hk
      simp only [wantP, if_true]
      unfold execOp
      go_simp
      exact ⟨_, N3.out.set3 (fun c => by simp [bv]) hk _ _ _, blk_set3 hk _ _ _, KF wr hg _ _ _⟩

set_option maxHeartbeats 2000000 in
theorem refdo_any (A : Option Addr) (n c : Nat) (at' del : Int) (v : Value) (b l : List UInt8) (w : World) (hb : Bs w (.slice A n c) b) (hv : Bs w v l) (hbl : b.length ≤ 10000000000000) (hll : l.length ≤ 10000000000000) :
    Calls Try.prog 12 #[.slice A n c, .agg #[.int .i64 at', .int .i64 del, v]] w fun e w' => ∃ v', e = .returned v' ∧ Bs w' v' (b.take (cutI at' b.length).toNat ++ l ++ b.drop ((cutI at' b.length).toNat + (cutI del (b.length - cutI at' b.length)).toNat)) ∧ Kept w w' := by
  obtain ⟨A1, c1, rfl⟩ := hv.form
  obtain ⟨hn, hnc, hcm⟩ := hb.len
  subst hn
  have HC := fun (w' : World) h => Lib.hid (refclamp_any b.length at' del (.slice A1 l.length c1) l w' (by omega) (by omega) h (by omega))
  have hp := cutI_bd at' b.length
  generalize cutI at' b.length = p at *
  have hd := cutI_bd del (b.length - p)
  generalize cutI del (b.length - p) = d at *
  have hp2 := hp.2 (by omega)
  have hd2 := hd.2 (by omega)
  obtain ⟨p, rfl⟩ := Int.eq_ofNat_of_zero_le hp.1
  obtain ⟨d, rfl⟩ := Int.eq_ofNat_of_zero_le hd.1
  clear hp hd
  simp only [Int.toNat_natCast]
  have hcut1 := hb.cut (lo := 0) (hi := p) (m := c) (by omega) (by omega) (by omega) (by omega)
  have hcut2 := hb.cut (lo := p + d) (hi := b.length) (m := c) (by omega) (by omega) (by omega) (by omega)
  simp only [Nat.sub_zero, List.drop_zero, Addr.add_zero', Option.map_id', ite_self] at hcut1
  rw [List.take_of_length_le (Nat.le_refl _)] at hcut2
  have l1 : (b.take p).length = p := by simp; omega
  have l2 : (b.drop (p + d)).length = b.length - (p + d) := by simp
  generalize b.take p = T1 at *
  generalize b.drop (p + d) = T2 at *
  have L1 := Lib.hid l1
  have L2 := Lib.hid l2
  have H1 := Lib.hid hcut1
  have H2 := Lib.hid hcut2
  have HV := Lib.hid hv
  clear hb hv hcut1 hcut2 l1 l2
  obtain ⟨i0, hi, hz0, hz1, hz2⟩ := info_parts info5
  go_enter Try.func12, Try.ntmps12
  go_wp2_with fail
  refine (HC _ (HV.out.keep ((Kept.refl _).alloc _))).out.mono ?_
  rintro e w1 ⟨v', rfl, hb1, hk1⟩
  obtain ⟨A2, c2, rfl⟩ := hb1.form
  have HX := Lib.hid (hb1.keep ((Kept.refl _).alloc (.cells #[.int .i64 p, .int .i64 d, .slice A2 l.length c2] 24)))
  have hkw : Kept w (w1.alloc (.cells #[.int .i64 p, .int .i64 d, .slice A2 l.length c2] 24)) := (((Kept.refl _).alloc _).trans hk1).alloc _
  have hW := blk_new w1 (.cells #[.int .i64 p, .int .i64 d, .slice A2 l.length c2] 24)
  have HW := Lib.hid hW
  clear hb1 hW
  have e1 : (p : Int) ≤ c := by omega
  have e2 : 0 ≤ (p : Int) + d := by omega
  have e3 : (p : Int) + d ≤ b.length := by omega
  have hq : ((p : Int) + d).toNat = p + d := by omega
  obtain ⟨A4, hA4⟩ : ∃ A4, (if c = p + d then A else A.map (·.add (p + d))) = A4 := ⟨_, rfl⟩
  have h2 := H2.out
  rw [hA4] at h2
  have H4 := Lib.hid h2
  clear h2 H2
  go_wp2_with (first
    | (at_builtin
       refine wpList_app _ rfl _ _ _ rfl (w1.heap.size + 1) 5 i0 _ Try.underlying22 hi hz0 hz1 hz2 rfl (.slice none 0 0) 0 [] rfl (World.ownsRow_nil _ _ _ _) (.slice A p c) T1 rfl (H1.out.keep hkw) (by rw [L1.out]; omega) (by simp) ?_
       intro v2 w2 hown2 hg2 hat2
       have hk2 : Kept (w1.alloc (.cells #[.int .i64 p, .int .i64 d, .slice A2 l.length c2] 24)) w2 := Kept.of_grown (by simpa [Value.ownBlock] using hg2)
       obtain ⟨⟨x0, x1, x2⟩, x3⟩ := box3 (Kept.blk hk2 HW.out)
       have O2 := Lib.hid hown2
       clear hown2 hg2 hat2 x3)
    | (at_builtin
       refine wpList_app _ rfl _ _ _ rfl (w1.heap.size + 1) 5 i0 _ Try.underlying22 hi hz0 hz1 hz2 rfl v2 (0 + T1.length) ([] ++ T1) rfl O2.out (.slice A2 l.length c2) l rfl (HX.out.keep hk2) (by rw [L1.out]; omega) (by have := hk2.size; simpa using this) ?_
       intro v3 w3 hown3 hg3 hat3
       have hk3 : Kept (w1.alloc (.cells #[.int .i64 p, .int .i64 d, .slice A2 l.length c2] 24)) w3 := Below.grown hk2 hg3 hk2.size (fun k hk => by have := (O2.out.lt k hk).1; simpa using this)
       obtain ⟨⟨y0, y1, y2⟩, y3⟩ := box3 (Kept.blk hk3 HW.out)
       have O3 := Lib.hid hown3
       clear hown3 hg3 hat3 y3)
    | (at_builtin
       refine wpList_app _ rfl _ _ _ rfl (w1.heap.size + 1) 5 i0 _ Try.underlying22 hi hz0 hz1 hz2 rfl v3 (0 + T1.length + l.length) ([] ++ T1 ++ l) rfl O3.out (.slice A4 (b.length - (p + d)) (c - (p + d))) T2 rfl (H4.out.keep (hkw.trans hk3)) (by rw [L1.out, L2.out]; omega) (by have := hk3.size; simpa using this) ?_
       intro v4 w4 hown4 hg4 hat4
       have hk4 : Kept (w1.alloc (.cells #[.int .i64 p, .int .i64 d, .slice A2 l.length c2] 24)) w4 := Below.grown hk3 hg4 hk3.size (fun k hk => by have := (O3.out.lt k hk).1; simpa using this)
       have O4 := Lib.hid hown4
       clear hown4 hg4 hat4))
  go_ret
  exact ⟨v4, rfl, Bs.of_own (by simpa using O4.out), hkw.trans hk4⟩


theorem wrap_two (a k d : Int) : wrap64 (wrap64 (a + k) - d) = wrap64 (a - d + k) := by unfold wrap64; omega
set_option maxHeartbeats 2000000 in
theorem refmap_pos (n at' del x : Int) (v : Value) (l : List UInt8) (w : World) (hn : 0 ≤ n) (hn' : n ≤ 9223372036854775807) (hv : Bs w v l) (hll : l.length ≤ 10000000000000) :
    Calls Try.prog 14 #[.int .i64 n, .agg #[.int .i64 at', .int .i64 del, v], .int .i64 x] w fun e w' => e = .returned (.int .i64 (mapI (cutI at' n) (cutI del (n - cutI at' n)) l.length (cutI x n))) ∧ Kept w w' := by
  obtain ⟨A1, c1, rfl⟩ := hv.form
  have HV := Lib.hid hv
  clear hv
  have HR := fun (w' : World) h => Lib.hid (refclamp_any n at' del (.slice A1 l.length c1) l w' (by omega) hn' h (by omega))
  have ex : rcut x 0 n = cutI x n := by unfold rcut cutI; split <;> (try split) <;> omega
  have HX := fun w' : World => Lib.hid (refcut_any x 0 n w')
  rw [ex] at HX
  clear ex
  have hb1 : 0 ≤ cutI at' n ∧ 0 ≤ cutI del (n - cutI at' n) ∧ 0 ≤ cutI x n ∧ cutI at' n + cutI del (n - cutI at' n) ≤ 9223372036854775807 ∧ cutI x n ≤ 9223372036854775807 ∧ cutI del (n - cutI at' n) ≤ 9223372036854775807 := by unfold cutI; omega
  generalize cutI at' n = f at *
  generalize cutI del (n - f) = d at *
  generalize cutI x n = p at *
  obtain ⟨b1, b2, b3, b4, b5, b6⟩ := hb1
  have hfin : ∀ y, y = mapI f d l.length p → Ending.returned (Value.int .i64 y) = .returned (.int .i64 (mapI f d l.length p)) := fun y h => by rw [h]
  have HF := Lib.hid hfin
  clear hfin
  have hw := wrap_two p l.length d
  have HW := Lib.hid hw
  clear hw
  by_cases h1 : p ≤ f <;> by_cases h2 : p < f + d <;> by_cases h3 : p = f + d
  all_goals try (exfalso; omega)
  all_goals
    first | ((have h4 : (p == f + d) = true := by simpa using h3); (have h5 : d ≤ p - f := by omega); (have h6 : p - f ≤ d := by omega); (try (have h7 : decide (0 < d) = false := by rw [decide_eq_false_iff_not]; omega))) | (have h4 : (p == f + d) = false := by simpa using h3)
    have H3 := Lib.hid h3
    clear h3
    go_enter Try.func14, Try.ntmps14
    go_wp2_with fail
    refine (HR _ (HV.out.keep ((Kept.refl _).alloc _))).out.mono ?_
    rintro e w1 ⟨v', rfl, hb1, hk1⟩
    obtain ⟨A2, c2, rfl⟩ := hb1.form
    clear hb1
    go_wp2_with fail
    refine (HX _).out.mono ?_
    rintro e w2 ⟨rfl, rfl⟩
    go_wp2_with fail
  all_goals
    go_ret
    refine ⟨HF.out _ ?_, (((Kept.refl _).alloc _).trans hk1).alloc _⟩
    have h3 := H3.out
    have hw := HW.out
    unfold mapI
    first | (exfalso; omega) | (rw [if_pos (by omega)]; done) | (rw [if_pos (by omega)]; omega) | (rw [if_neg (by omega), if_pos (by omega)]; done) | (rw [if_neg (by omega), if_neg (by omega)]; exact hw)
set_option maxHeartbeats 2000000 in
theorem refmap_neg (n at' del x : Int) (v : Value) (l : List UInt8) (w : World) (hn : n < 0) (hv : Bs w v l) (hll : l.length ≤ 10000000000000) :
    Calls Try.prog 14 #[.int .i64 n, .agg #[.int .i64 at', .int .i64 del, v], .int .i64 x] w fun e w' => e = .returned (.int .i64 (mapI (cutI at' n) (cutI del (n - cutI at' n)) l.length (cutI x n))) ∧ Kept w w' := by
  obtain ⟨A1, c1, rfl⟩ := hv.form
  have HV := Lib.hid hv
  clear hv
  have HR := fun (w' : World) h => Lib.hid (refclamp_any 0 at' del (.slice A1 l.length c1) l w' (by omega) (by omega) h (by omega))
  have HX := fun w' : World => Lib.hid (refcut_any x 0 0 w')
  rw [show rcut x 0 0 = 0 from by unfold rcut; split <;> (try split) <;> omega] at HX
  have e1 : cutI at' 0 = 0 := by unfold cutI; omega
  have e2 : cutI del (0 - 0) = 0 := by unfold cutI; omega
  rw [e1, e2] at HR
  have hr : mapI (cutI at' n) (cutI del (n - cutI at' n)) l.length (cutI x n) = 0 := by
    have e3 : cutI x n = 0 := by unfold cutI; omega
    have e4 : cutI at' n = 0 := by unfold cutI; omega
    unfold mapI
    rw [e3, e4, if_pos (by omega)]
  rw [hr]
  clear hr e1 e2
  go_enter Try.func14, Try.ntmps14
  go_wp2_with fail
  refine (HR _ (HV.out.keep ((Kept.refl _).alloc _))).out.mono ?_
  rintro e w1 ⟨v', rfl, hb1, hk1⟩
  obtain ⟨A2, c2, rfl⟩ := hb1.form
  clear hb1
  go_wp2_with fail
  refine (HX _).out.mono ?_
  rintro e w2 ⟨rfl, rfl⟩
  go_wp2_with fail
  go_ret
  exact ⟨rfl, (((Kept.refl _).alloc _).trans hk1).alloc _⟩
theorem refmap_any (n at' del x : Int) (v : Value) (l : List UInt8) (w : World) (hn' : n ≤ 9223372036854775807) (hv : Bs w v l) (hll : l.length ≤ 10000000000000) :
    Calls Try.prog 14 #[.int .i64 n, .agg #[.int .i64 at', .int .i64 del, v], .int .i64 x] w fun e w' => e = .returned (.int .i64 (mapI (cutI at' n) (cutI del (n - cutI at' n)) l.length (cutI x n))) ∧ Kept w w' := by
  by_cases h : n < 0
  · exact refmap_neg n at' del x v l w h hv hll
  · exact refmap_pos n at' del x v l w (by omega) hn' hv hll
end Go.Proofs.Ytbpgbelfgigogaa
