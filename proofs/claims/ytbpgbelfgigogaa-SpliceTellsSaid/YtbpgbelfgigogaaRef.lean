/-
  What the document's own answers on splices are, on values and memory.
-/
import Derived.Test.YtbpgbelfgigogaaBack
set_option linter.unusedSimpArgs false
namespace Go.Proofs.Ytbpgbelfgigogaa
open Go Go.RowKit Kit
def rcut (x lo hi : Int) : Int := if x < lo then lo else if hi < x then hi else x
theorem refcut_any (x lo hi : Int) (w : World) : Calls Try.prog 19 #[.int .i64 x, .int .i64 lo, .int .i64 hi] w fun e w' => e = .returned (.int .i64 (rcut x lo hi)) ∧ w = w' := by
  have key : ∀ y : Int, y = rcut x lo hi → Ending.returned (Value.int .i64 y) = Ending.returned (.int .i64 (rcut x lo hi)) := fun y h => by rw [h]
  by_cases h1 : x < lo <;> by_cases h2 : hi < x
  all_goals
    go_enter Try.func19, Try.ntmps19
    go_wp2
    go_ret
    exact ⟨key _ (by unfold rcut; first | rw [if_pos (by omega)] | (rw [if_neg (by omega)]; first | rw [if_pos (by omega)] | rw [if_neg (by omega)])), rfl⟩

/-- An append in a region that draws. -/
theorem Kit.ups_app {P : Program} {ρ : Operand → Value} {o : Oper} {w : World} {R : Value → World → Prop} (s x : Operand) (t tn : TypeId) (ho : o.op = .call { callee := .builtin .append, args := #[s, x], argTypes := #[t, tn] }) (vs vx : Value) (hs : ρ s = vs) (hx : ρ x = vx) (v' : Value) (w' : World)
    (hr : (Builtin.append_ #[t, tn] o.type #[vs, vx]).run P w = .ok v' w') (h : R v' w') : Ups P R ((execOp ρ o).run P w) := by
  unfold execOp
  simp only [ho, resolve, invoke, builtin, Sem.run_bind, Sem.run_pure, Result.andThen_ok, List.map_toArray, List.map_cons, List.map_nil, hs, hx, hr]
  exact h

set_option maxHeartbeats 2000000 in
theorem refclamp_any (n at' del : Int) (v : Value) (l : List UInt8) (w : World) (hn : -9223372036854775808 ≤ n) (hn' : n ≤ 9223372036854775807) (hb : Bs w v l) (hl : l.length ≤ 140737488355328) :
    Calls Try.prog 10 #[.int .i64 n, .agg #[.int .i64 at', .int .i64 del, v]] w fun e w' => ∃ v', e = .returned (.agg #[.int .i64 (cutI at' n), .int .i64 (cutI del (n - cutI at' n)), v']) ∧ Bs w' v' l ∧ Kept w w' := by
  obtain ⟨A1, c1, rfl⟩ := hb.form
  have HV := Lib.hid hb
  clear hb
  by_cases h0 : n < 0
  · have ep : rcut at' 0 0 = cutI at' n := by unfold rcut cutI; split <;> (try split) <;> omega
    have ed : rcut del 0 (0 - cutI at' n) = cutI del (n - cutI at' n) := by unfold rcut cutI; split <;> (try split) <;> omega
    have hb0 : cutI at' n = 0 := by unfold cutI; omega
    generalize cutI at' n = p at *
    generalize cutI del (n - p) = d at *
    have EP := Lib.hid ep
    have ED := Lib.hid ed
    have hb1 : 0 ≤ p ∧ p ≤ 0 := by omega
    clear ep ed hb0
    go_enter Try.func10, Try.ntmps10
    go_wp2_with fail
    refine (refcut_any _ _ _ _).mono ?_
    rintro e w1 ⟨rfl, rfl⟩
    rw [EP.out]
    go_wp2_with fail
    refine wp_abs (fun a => a.tmps.size = 23 ∧ a.defers = [] ∧ a.eval (.tmp 0) = .int .i64 0 ∧ a.eval (.tmp 3) = .pointer (some ⟨w.heap.size, 0, none⟩) ∧ a.eval (.tmp 4) = .pointer (some ⟨w.heap.size + 1, 0, none⟩) ∧ a.eval (.tmp 5) = .int .i64 p) ⟨rfl, rfl, rfl, rfl, rfl, rfl⟩ ?_
    rintro a0 ⟨hsz, hdef, h0, h3, h4, h5⟩
    have hk1 : Kept w ((w.alloc (.cells #[.int .i64 at', .int .i64 del, .slice A1 l.length c1] 24)).alloc (.cells #[.int .i64 0, .int .i64 0, .slice none 0 0] 24)) := ((Kept.refl _).alloc _).alloc _
    have hW3 := blk_old (w.alloc (.cells #[.int .i64 at', .int .i64 del, .slice A1 l.length c1] 24)) (.cells #[.int .i64 0, .int .i64 0, .slice none 0 0] 24) (blk_new w _)
    have hW4 := blk_new (w.alloc (.cells #[.int .i64 at', .int .i64 del, .slice A1 l.length c1] 24)) (.cells #[.int .i64 0, .int .i64 0, .slice none 0 0] 24)
    rw [World.size_alloc] at hW4
    generalize (w.alloc (.cells #[.int .i64 at', .int .i64 del, .slice A1 l.length c1] 24)).alloc (.cells #[.int .i64 0, .int .i64 0, .slice none 0 0] 24) = W at *
    have hkW : ∀ wr, W.drew.grownBy wr none → Kept W wr := fun wr hg => (Kept.drew (Kept.refl _)).trans (Kept.of_grown hg)
    have L3 : ∀ wr, W.drew.grownBy wr none → wr.cell? ⟨w.heap.size, 0, none⟩ = some (.int .i64 at') ∧ wr.cell? ⟨w.heap.size, 1, none⟩ = some (.int .i64 del) ∧ wr.cell? ⟨w.heap.size, 2, none⟩ = some (.slice A1 l.length c1) := fun wr hg => (box3 (Kept.blk (hkW wr hg) hW3)).1
    have LK : ∀ wr, W.drew.grownBy wr none → wr.heap[w.heap.size + 1]? = some (.cells #[.int .i64 0, .int .i64 0, .slice none 0 0] 24 (0, 0)) := fun wr hg => Kept.blk (hkW wr hg) hW4
    have HBV : ∀ wr, W.drew.grownBy wr none → Bs wr (.slice A1 l.length c1) l := fun wr hg => HV.out.keep (hk1.trans (hkW wr hg))
    have KF : ∀ wr, W.drew.grownBy wr none → ∀ x y z, Kept w (((wr.setCell ⟨w.heap.size + 1, 0, none⟩ x).setCell ⟨w.heap.size + 1, 1, none⟩ y).setCell ⟨w.heap.size + 1, 2, none⟩ z) := fun wr hg x y z =>
      (((hk1.trans (hkW wr hg)).setCell (by simp) _).setCell (by simp) _).setCell (by simp) _
    clear hkW hW3 hW4 hk1
    refine wp_region_plan none (vat [isv (.int .i64 p),
        isv (.pointer (some ⟨w.heap.size, 1, none⟩)),
        isv (.int .i64 del),
        isv (.int .i64 0),
        isv (.int .i64 p),
        isv (.int .i64 (0 - p)),
        isv (.int .i64 d),
        isv (.pointer (some ⟨w.heap.size, 2, none⟩)),
        isv (.slice A1 l.length c1),
        fun u w' => Bs w' u l,
        fun u w' => ∃ v', u = .agg #[.int .i64 p, .int .i64 d, v'] ∧ Bs w' v' l])
      (fun _ w' => ∃ v', Bs w' v' l ∧ w'.heap[w.heap.size + 1]? = some (.cells #[.int .i64 p, .int .i64 d, v'] 24 (0, 0)) ∧ Kept w w')
      [([(5, none)], none), ([(3, none)], none), ([(13, some 1)], none), ([(0, none)], none), ([(5, none)], none), ([(15, some 3), (16, some 4)], none), ([(14, some 2), (17, some 5)], none), ([(3, none)], none), ([(19, some 7)], none), ([(20, some 8)], none), ([(12, some 0), (18, some 6), (21, some 9)], none), ([(4, none), (22, some 10)], none)]
      (by kernel_rfl) 23 hsz (by kernel_rfl) (by kernel_rfl) (by decide) ?st ?steps ?fin
    case st =>
      refine stays_vat _ _ fun q hq => ?_
      simp only [List.mem_cons, List.not_mem_nil, or_false] at hq
      rcases hq with rfl | rfl | rfl | rfl | rfl | rfl | rfl | rfl | rfl | rfl | rfl
      all_goals first | exact stays_isv _ _ | (rintro u x y hg ⟨v', rfl, h⟩; exact ⟨v', rfl, h.keep (Kept.of_grown hg)⟩) | (intro u x y hg h; exact Bs.keep h (Kept.of_grown hg))
    case fin =>
      rintro a o u w' hL ho ⟨v', hb', hk', hkf⟩
      simp at ho
      subst ho
      rename_i K hK
      obtain ⟨A3, c3, rfl⟩ := hb'.form
      obtain ⟨⟨d0, d1, d2⟩, _⟩ := box3 hk'
      refine hK _ _ (ret_cell (d := 4) (t := 24) (k := w.heap.size + 1) (v := .agg #[.int .i64 p, .int .i64 d, .slice A3 l.length c3]) rfl ((hL.rest 4 (by simp)).trans h4) (hL.defers.trans hdef) ?_ ⟨_, rfl, hb', hkf⟩)
      simp [go_sem, d0, d1, d2]
    case steps =>
      refine ⟨?_, ?_, ?_, ?_, ?_, ?_, ?_, ?_, ?_, ?_, ?_, ?_⟩
      all_goals
        intro ρ wr hg hn hc hf hgl
        simp only [Need, vat, List.getD_cons_zero, List.getD_cons_succ, isv, and_true, h0, h3, h4, h5] at hn ⊢
      · simp [wantP, execOp, Ups, hn, hc, grown_refl, go_sem]
      · simp [wantP, execOp, Ups, hn, hc, grown_refl, go_sem]
      · obtain ⟨q0, q1, q2⟩ := L3 wr hg
        simp only [wantP, if_true]
        unfold execOp
        go_simp
        exact ⟨rfl, grown_refl _ _⟩
      · simp [wantP, execOp, Ups, hn, hc, grown_refl, go_sem]
      · simp [wantP, execOp, Ups, hn, hc, grown_refl, go_sem]
      · obtain ⟨n1, n2⟩ := hn
        simp only [wantP, if_true]
        unfold execOp
        go_simp
        exact ⟨by first | rfl | (congr 1; rw [IntWalk.i64_in _ (by omega)]) | (congr 1; rw [IntWalk.i64_in _ (by omega)]; omega), grown_refl _ _⟩
      · obtain ⟨n1, n2⟩ := hn
        simp only [wantP, if_true]
        unfold execOp
        go_simp
        refine (refcut_any _ _ _ wr).mono ?_
        rintro e w3 ⟨rfl, rfl⟩
        exact ⟨_, rfl, by first | rw [ED.out] | rw [show -p = 0 - p from by omega, ED.out], grown_refl _ _⟩
      · simp [wantP, execOp, Ups, hn, hc, grown_refl, go_sem]
      · obtain ⟨q0, q1, q2⟩ := L3 wr hg
        simp only [wantP, if_true]
        unfold execOp
        go_simp
        exact ⟨rfl, grown_refl _ _⟩
      · obtain ⟨i0, hi, hz0, hz1, hz2⟩ := info_parts info5
        obtain ⟨v3, w3, hr3, hb3, hk3⟩ := run_fresh (P := Try.prog) wr 22 22 5 i0 _ Try.underlying22 hi hz0 hz1 hz2 rfl _ _ (HBV wr hg) (by omega)
        simp only [wantP, if_true]
        exact ups_app _ _ _ _ rfl _ _ (hc _) hn v3 w3 hr3 ⟨hb3, hk3.grownBy _⟩
      · obtain ⟨n1, n2, n3⟩ := hn
        obtain ⟨A3, c3, hv3⟩ := n3.form
        have N3 := Lib.hid n3
        clear n3
        rw [hv3] at N3
        simp only [wantP, if_true]
        unfold execOp
        go_simp
        exact ⟨⟨_, rfl, N3.out⟩, grown_refl _ _⟩
      · obtain ⟨n1, v3, n2, n3⟩ := hn
        obtain ⟨A3, c3, rfl⟩ := n3.form
        have N3 := Lib.hid n3
        clear n3
        have hk := LK wr hg
        obtain ⟨⟨d0, d1, d2⟩, f0, f1, f2⟩ := box3 hk
        simp only [wantP, if_true]
        unfold execOp
        go_simp
        exact ⟨_, N3.out.set3 (fun c => by simp [bv]) hk _ _ _, blk_set3 hk _ _ _, KF wr hg _ _ _⟩
  · have ep : rcut at' 0 n = cutI at' n := by unfold rcut cutI; split <;> (try split) <;> omega
    have ed : rcut del 0 (n - cutI at' n) = cutI del (n - cutI at' n) := by unfold rcut cutI; split <;> (try split) <;> omega
    have hb1 := cutI_bd at' n
    have hb2 := hb1.2 (by omega)
    generalize cutI at' n = p at *
    generalize cutI del (n - p) = d at *
    have EP := Lib.hid ep
    have ED := Lib.hid ed
    clear ep ed
    go_enter Try.func10, Try.ntmps10
    go_wp2_with fail
    refine (refcut_any _ _ _ _).mono ?_
    rintro e w1 ⟨rfl, rfl⟩
    rw [EP.out]
    go_wp2_with fail
    refine wp_abs (fun a => a.tmps.size = 23 ∧ a.defers = [] ∧ a.eval (.tmp 0) = .int .i64 n ∧ a.eval (.tmp 3) = .pointer (some ⟨w.heap.size, 0, none⟩) ∧ a.eval (.tmp 4) = .pointer (some ⟨w.heap.size + 1, 0, none⟩) ∧ a.eval (.tmp 5) = .int .i64 p) ⟨rfl, rfl, rfl, rfl, rfl, rfl⟩ ?_
    rintro a0 ⟨hsz, hdef, h0, h3, h4, h5⟩
    have hk1 : Kept w ((w.alloc (.cells #[.int .i64 at', .int .i64 del, .slice A1 l.length c1] 24)).alloc (.cells #[.int .i64 0, .int .i64 0, .slice none 0 0] 24)) := ((Kept.refl _).alloc _).alloc _
    have hW3 := blk_old (w.alloc (.cells #[.int .i64 at', .int .i64 del, .slice A1 l.length c1] 24)) (.cells #[.int .i64 0, .int .i64 0, .slice none 0 0] 24) (blk_new w _)
    have hW4 := blk_new (w.alloc (.cells #[.int .i64 at', .int .i64 del, .slice A1 l.length c1] 24)) (.cells #[.int .i64 0, .int .i64 0, .slice none 0 0] 24)
    rw [World.size_alloc] at hW4
    generalize (w.alloc (.cells #[.int .i64 at', .int .i64 del, .slice A1 l.length c1] 24)).alloc (.cells #[.int .i64 0, .int .i64 0, .slice none 0 0] 24) = W at *
    have hkW : ∀ wr, W.drew.grownBy wr none → Kept W wr := fun wr hg => (Kept.drew (Kept.refl _)).trans (Kept.of_grown hg)
    have L3 : ∀ wr, W.drew.grownBy wr none → wr.cell? ⟨w.heap.size, 0, none⟩ = some (.int .i64 at') ∧ wr.cell? ⟨w.heap.size, 1, none⟩ = some (.int .i64 del) ∧ wr.cell? ⟨w.heap.size, 2, none⟩ = some (.slice A1 l.length c1) := fun wr hg => (box3 (Kept.blk (hkW wr hg) hW3)).1
    have LK : ∀ wr, W.drew.grownBy wr none → wr.heap[w.heap.size + 1]? = some (.cells #[.int .i64 0, .int .i64 0, .slice none 0 0] 24 (0, 0)) := fun wr hg => Kept.blk (hkW wr hg) hW4
    have HBV : ∀ wr, W.drew.grownBy wr none → Bs wr (.slice A1 l.length c1) l := fun wr hg => HV.out.keep (hk1.trans (hkW wr hg))
    have KF : ∀ wr, W.drew.grownBy wr none → ∀ x y z, Kept w (((wr.setCell ⟨w.heap.size + 1, 0, none⟩ x).setCell ⟨w.heap.size + 1, 1, none⟩ y).setCell ⟨w.heap.size + 1, 2, none⟩ z) := fun wr hg x y z =>
      (((hk1.trans (hkW wr hg)).setCell (by simp) _).setCell (by simp) _).setCell (by simp) _
    clear hkW hW3 hW4 hk1
    refine wp_region_plan none (vat [isv (.int .i64 p),
        isv (.pointer (some ⟨w.heap.size, 1, none⟩)),
        isv (.int .i64 del),
        isv (.int .i64 n),
        isv (.int .i64 p),
        isv (.int .i64 (n - p)),
        isv (.int .i64 d),
        isv (.pointer (some ⟨w.heap.size, 2, none⟩)),
        isv (.slice A1 l.length c1),
        fun u w' => Bs w' u l,
        fun u w' => ∃ v', u = .agg #[.int .i64 p, .int .i64 d, v'] ∧ Bs w' v' l])
      (fun _ w' => ∃ v', Bs w' v' l ∧ w'.heap[w.heap.size + 1]? = some (.cells #[.int .i64 p, .int .i64 d, v'] 24 (0, 0)) ∧ Kept w w')
      [([(5, none)], none), ([(3, none)], none), ([(13, some 1)], none), ([(0, none)], none), ([(5, none)], none), ([(15, some 3), (16, some 4)], none), ([(14, some 2), (17, some 5)], none), ([(3, none)], none), ([(19, some 7)], none), ([(20, some 8)], none), ([(12, some 0), (18, some 6), (21, some 9)], none), ([(4, none), (22, some 10)], none)]
      (by kernel_rfl) 23 hsz (by kernel_rfl) (by kernel_rfl) (by decide) ?st ?steps ?fin
    case st =>
      refine stays_vat _ _ fun q hq => ?_
      simp only [List.mem_cons, List.not_mem_nil, or_false] at hq
      rcases hq with rfl | rfl | rfl | rfl | rfl | rfl | rfl | rfl | rfl | rfl | rfl
      all_goals first | exact stays_isv _ _ | (rintro u x y hg ⟨v', rfl, h⟩; exact ⟨v', rfl, h.keep (Kept.of_grown hg)⟩) | (intro u x y hg h; exact Bs.keep h (Kept.of_grown hg))
    case fin =>
      rintro a o u w' hL ho ⟨v', hb', hk', hkf⟩
      simp at ho
      subst ho
      rename_i K hK
      obtain ⟨A3, c3, rfl⟩ := hb'.form
      obtain ⟨⟨d0, d1, d2⟩, _⟩ := box3 hk'
      refine hK _ _ (ret_cell (d := 4) (t := 24) (k := w.heap.size + 1) (v := .agg #[.int .i64 p, .int .i64 d, .slice A3 l.length c3]) rfl ((hL.rest 4 (by simp)).trans h4) (hL.defers.trans hdef) ?_ ⟨_, rfl, hb', hkf⟩)
      simp [go_sem, d0, d1, d2]
    case steps =>
      refine ⟨?_, ?_, ?_, ?_, ?_, ?_, ?_, ?_, ?_, ?_, ?_, ?_⟩
      all_goals
        intro ρ wr hg hn hc hf hgl
        simp only [Need, vat, List.getD_cons_zero, List.getD_cons_succ, isv, and_true, h0, h3, h4, h5] at hn ⊢
      · simp [wantP, execOp, Ups, hn, hc, grown_refl, go_sem]
      · simp [wantP, execOp, Ups, hn, hc, grown_refl, go_sem]
      · obtain ⟨q0, q1, q2⟩ := L3 wr hg
        simp only [wantP, if_true]
        unfold execOp
        go_simp
        exact ⟨rfl, grown_refl _ _⟩
      · simp [wantP, execOp, Ups, hn, hc, grown_refl, go_sem]
      · simp [wantP, execOp, Ups, hn, hc, grown_refl, go_sem]
      · obtain ⟨n1, n2⟩ := hn
        simp only [wantP, if_true]
        unfold execOp
        go_simp
        exact ⟨by first | rfl | (congr 1; rw [IntWalk.i64_in _ (by omega)]) | (congr 1; rw [IntWalk.i64_in _ (by omega)]; omega), grown_refl _ _⟩
      · obtain ⟨n1, n2⟩ := hn
        simp only [wantP, if_true]
        unfold execOp
        go_simp
        refine (refcut_any _ _ _ wr).mono ?_
        rintro e w3 ⟨rfl, rfl⟩
        exact ⟨_, rfl, by first | rw [ED.out] | rw [show -p = 0 - p from by omega, ED.out], grown_refl _ _⟩
      · simp [wantP, execOp, Ups, hn, hc, grown_refl, go_sem]
      · obtain ⟨q0, q1, q2⟩ := L3 wr hg
        simp only [wantP, if_true]
        unfold execOp
        go_simp
        exact ⟨rfl, grown_refl _ _⟩
      · obtain ⟨i0, hi, hz0, hz1, hz2⟩ := info_parts info5
        obtain ⟨v3, w3, hr3, hb3, hk3⟩ := run_fresh (P := Try.prog) wr 22 22 5 i0 _ Try.underlying22 hi hz0 hz1 hz2 rfl _ _ (HBV wr hg) (by omega)
        simp only [wantP, if_true]
        exact ups_app _ _ _ _ rfl _ _ (hc _) hn v3 w3 hr3 ⟨hb3, hk3.grownBy _⟩
      · obtain ⟨n1, n2, n3⟩ := hn
        obtain ⟨A3, c3, hv3⟩ := n3.form
        have N3 := Lib.hid n3
        clear n3
        rw [hv3] at N3
        simp only [wantP, if_true]
        unfold execOp
        go_simp
        exact ⟨⟨_, rfl, N3.out⟩, grown_refl _ _⟩
      · obtain ⟨n1, v3, n2, n3⟩ := hn
        obtain ⟨A3, c3, rfl⟩ := n3.form
        have N3 := Lib.hid n3
        clear n3
        have hk := LK wr hg
        obtain ⟨⟨d0, d1, d2⟩, f0, f1, f2⟩ := box3 hk
        simp only [wantP, if_true]
        unfold execOp
        go_simp
        exact ⟨_, N3.out.set3 (fun c => by simp [bv]) hk _ _ _, blk_set3 hk _ _ _, KF wr hg _ _ _⟩
end Go.Proofs.Ytbpgbelfgigogaa
