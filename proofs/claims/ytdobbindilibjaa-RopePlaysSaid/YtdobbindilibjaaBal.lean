/-
  What rope.balance does, on values and memory.
-/
import Derived.Test.YtdobbindilibjaaNode
import Derived.Deep.QuietTactic
import Derived.BigQuiet
set_option linter.unusedSimpArgs false
namespace Go.Proofs.Ytdobbindilibjaa.Kit
open Go Go.RowKit
theorem kept_drewN (w : World) (n : Nat) : Kept w (w.drewN n) := ⟨rfl, rfl, rfl, Nat.le_refl _, fun _ _ => rfl⟩
theorem wp_from {P : Program} {c : Code} {Q : Exit → Act → World → Prop} {a : Act} {w w' : World} (h : Kept w w') (k : ∀ w1, Kept w w1 → c.wp P Q a w1) : c.wp P Q a w' := k w' h
theorem ret_put {P : Program} {fn : Func} {R : Ending → World → Prop} {a : Act} {w : World} {u : Value} {d : Tmp} (hres : fn.results = #[.tmp d]) (hd : d < a.tmps.size) (hdef : a.defers = []) (h : R (.returned u) w) :
    bodyPost P fn R .ret (a.put (some d) u) w := by
  refine ⟨hdef, u, ?_, h⟩
  simp [results, hres, Act.put, hd, go_sem]
end Go.Proofs.Ytdobbindilibjaa.Kit
namespace Go.Proofs.Ytdobbindilibjaa
open Go Go.RowKit Kit
set_option maxHeartbeats 1000000 in
theorem balA1 (a b : Value) (x y r : Tr) (w : World) (ha : At w a (.node x y)) (hb : At w b r) (hxh : x.ht ≤ 100000000000000) (hyh : y.ht ≤ 100000000000000) (hrh : r.ht ≤ 100000000000000) (hn : x.text.length + y.text.length + r.text.length ≤ 100000000000000) (h1 : r.ht + 1 < max x.ht y.ht + 1) (h2 : y.ht ≤ x.ht) :
    Calls Try.prog 43 #[a, b] w fun e w' => ∃ v, e = .returned v ∧ At w' v (.node x (.node y r)) ∧ Kept w w' := by
  obtain ⟨ka, ax, ay, rfl, hka, hx, hy⟩ := ha
  obtain ⟨kx, x1, x2, xs, rfl, hkx⟩ := hx.block
  obtain ⟨ky, y1, y2, ys, rfl, hky⟩ := hy.block
  obtain ⟨kb, b1, b2, bs, rfl, hkb⟩ := hb.block
  obtain ⟨ca0, ca1, -, -, -, ca5⟩ := box6 hka
  obtain ⟨-, -, -, -, -, x5⟩ := box6 hkx
  obtain ⟨-, -, -, -, -, y5⟩ := box6 hky
  obtain ⟨-, -, -, -, -, r5⟩ := box6 hkb
  clear hka hkx hky hkb
  have HX := Lib.hid hx
  have HY := Lib.hid hy
  have HB := Lib.hid hb
  have HN := Lib.hid hn
  clear hx hy hb hn
  have g1 : (r.ht : Int) + 1 < (max x.ht y.ht + 1 : Nat) := by omega
  have g2 : (y.ht : Int) ≤ x.ht := by omega
  generalize max x.ht y.ht + 1 = hA at *
  generalize ex : x.ht = tx at *
  generalize ey : y.ht = ty at *
  generalize er : r.ht = tr at *
  unfold ptr at *
  go_enter Try.func43, Try.ntmps43
  go_wp2_with fail
  go_quiet (fail)
  go_wp2_with fail
  go_quiet (fail)
  go_wp2_with fail
  refine wp_from (w := w) (by first | exact kept_drewN w _ | exact (kept_drewN w _).trans (kept_drewN _ _) | exact ((kept_drewN w _).trans (kept_drewN _ _)).trans (kept_drewN _ _)) ?_
  intro w1 hk1
  refine wp_abs (fun a => a.tmps.size = 126 ∧ a.defers = [] ∧ a.eval (.tmp 0) = .pointer (some ⟨ka, 0, none⟩) ∧ a.eval (.tmp 1) = .pointer (some ⟨kb, 0, none⟩)) ⟨rfl, rfl, rfl, rfl⟩ ?_
  rintro a0 ⟨hsz, hdef, h0, h1⟩
  have hkw1 : Kept w w1.drew := hk1.trans (Kept.drew (Kept.refl _))
  have hkw : ∀ wr, Kept w1.drew wr → Kept w wr := fun wr h => hk1.trans ((Kept.drew (Kept.refl _)).trans h)
  have L : ∀ wr, Kept w1.drew wr → wr.cell? ⟨ka, 0, none⟩ = some (.pointer (some ⟨kx, 0, none⟩)) ∧ wr.cell? ⟨ka, 1, none⟩ = some (.pointer (some ⟨ky, 0, none⟩)) := fun wr h => ⟨(hkw wr h).cell ca0, (hkw wr h).cell ca1⟩
  refine wp_region_plan Kept pre_kept (vat [isv (.pointer (some ⟨ka, 0, none⟩)),
      isv (.pointer (some ⟨ka, 0, none⟩)),
      isv (.pointer (some ⟨ka, 0, none⟩)),
      isv (.pointer (some ⟨kx, 0, none⟩)),
      isv (.pointer (some ⟨ka, 0, none⟩)),
      isv (.pointer (some ⟨ka, 0, none⟩)),
      isv (.pointer (some ⟨ka, 1, none⟩)),
      isv (.pointer (some ⟨ky, 0, none⟩)),
      isv (.pointer (some ⟨kb, 0, none⟩)),
      fun u w' => At w' u (.node y r),
      fun u w' => At w' u (.node x (.node y r))])
    (fun u w' => At w' u (.node x (.node y r)) ∧ Kept w1.drew w')
    [([(0, none)], none), ([(31, some 0)], none), ([(32, some 1)], none), ([(33, some 2)], none), ([(0, none)], none), ([(35, some 4)], none), ([(36, some 5)], none), ([(37, some 6)], none), ([(1, none)], none), ([(38, some 7), (39, some 8)], none), ([(34, some 3), (40, some 9)], none), ([(41, some 10)], none)]
    (by kernel_rfl) 126 hsz (by kernel_rfl) (by kernel_rfl) (by decide) ?st ?steps ?fin
  case st =>
    refine stays_vat _ _ fun q hq => ?_
    simp only [List.mem_cons, List.not_mem_nil, or_false] at hq
    rcases hq with rfl | rfl | rfl | rfl | rfl | rfl | rfl | rfl | rfl | rfl | rfl
    all_goals first | exact stays_isv _ _ | (intro u x y hg h; exact At.kept h hg)
  case fin =>
    rintro a o u w' hL ho ⟨hu, hk⟩
    simp at ho
    subst ho
    rename_i K hK
    refine hK _ _ (wp_ret ?_)
    simp only [Exit.then, Exit.inBlock]
    exact ret_put (fn := Try.f43) (d := 4) rfl (by rw [hL.tsize, hsz]; decide) (hL.defers.trans hdef) ⟨u, rfl, hu, hkw1.trans hk⟩
  case steps =>
    refine ⟨?_, ?_, ?_, ?_, ?_, ?_, ?_, ?_, ?_, ?_, ?_, ?_⟩
    all_goals
      intro ρ wr hg hn hc hf hgl
      simp only [Need, vat, List.getD_cons_zero, List.getD_cons_succ, isv, and_true, h0, h1] at hn ⊢
    · simp [wantP, execOp, Ups, hn, hc, pre_kept.refl, go_sem]
    · simp [wantP, execOp, Ups, hn, hc, pre_kept.refl, go_sem]
    · simp [wantP, execOp, Ups, hn, hc, pre_kept.refl, go_sem]
    · have hl := L wr hg
      simp [wantP, execOp, Ups, hn, hl, pre_kept.refl, go_sem]
    · simp [wantP, execOp, Ups, hn, hc, pre_kept.refl, go_sem]
    · simp [wantP, execOp, Ups, hn, hc, pre_kept.refl, go_sem]
    · simp [wantP, execOp, Ups, hn, hc, pre_kept.refl, go_sem]
    · have hl := L wr hg
      simp [wantP, execOp, Ups, hn, hl, pre_kept.refl, go_sem]
    · simp [wantP, execOp, Ups, hn, hc, pre_kept.refl, go_sem]
    · obtain ⟨m0, m1⟩ := hn
      simp only [wantP, if_true]
      unfold execOp
      go_simp
      refine (pair_any _ _ y r wr (HY.out.kept (hkw wr hg)) (HB.out.kept (hkw wr hg)) (by have := HN.out; (try simp only [Tr.text, Tr.ht, List.length_append]); omega) (by have := HN.out; (try simp only [Tr.text, Tr.ht, List.length_append]); omega) (by have := HN.out; (try simp only [Tr.text, Tr.ht, List.length_append]); omega)).mono ?_
      rintro e w3 ⟨v3, rfl, h3, hk3⟩
      exact ⟨v3, rfl, h3, hk3⟩
    · obtain ⟨m0, m1⟩ := hn
      have M1 := Lib.hid m1
      clear m1
      simp only [wantP, if_true]
      unfold execOp
      go_simp
      refine (pair_any _ _ x (.node y r) wr (HX.out.kept (hkw wr hg)) M1.out (by have := HN.out; (try simp only [Tr.text, Tr.ht, List.length_append]); omega) (by have := HN.out; (try simp only [Tr.text, Tr.ht, List.length_append]); omega) (by have := HN.out; (try simp only [Tr.text, Tr.ht, List.length_append]); omega)).mono ?_
      rintro e w3 ⟨v3, rfl, h3, hk3⟩
      exact ⟨v3, rfl, h3, hk3⟩
    · have HU := Lib.hid hn
      clear hn
      simp only [wantP, if_true]
      unfold execOp
      go_simp
      exact ⟨HU.out, hg⟩
set_option maxHeartbeats 1000000 in
theorem balA2 (a b : Value) (x p q r : Tr) (w : World) (ha : At w a (.node x (.node p q))) (hb : At w b r) (hxh : x.ht ≤ 100000000000000) (hph : p.ht ≤ 100000000000000) (hqh : q.ht ≤ 100000000000000) (hrh : r.ht ≤ 100000000000000) (hn : x.text.length + p.text.length + q.text.length + r.text.length ≤ 100000000000000) (h1 : r.ht + 1 < max x.ht (max p.ht q.ht + 1) + 1) (h2 : x.ht < max p.ht q.ht + 1) :
    Calls Try.prog 43 #[a, b] w fun e w' => ∃ v, e = .returned v ∧ At w' v (.node (.node x p) (.node q r)) ∧ Kept w w' := by
  obtain ⟨ka, ax, ay, rfl, hka, hx, hy⟩ := ha
  obtain ⟨kx, x1, x2, xs, rfl, hkx⟩ := hx.block
  obtain ⟨ky, yp, yq, rfl, hky, hp, hq⟩ := hy
  obtain ⟨kp, p1, p2, ps, rfl, hkp⟩ := hp.block
  obtain ⟨kq, q1, q2, qs, rfl, hkq⟩ := hq.block
  obtain ⟨kb, b1, b2, bs, rfl, hkb⟩ := hb.block
  obtain ⟨ca0, ca1, -, -, -, ca5⟩ := box6 hka
  obtain ⟨-, -, -, -, -, x5⟩ := box6 hkx
  obtain ⟨y0, y1, -, -, -, y5⟩ := box6 hky
  obtain ⟨-, -, -, -, -, r5⟩ := box6 hkb
  clear hka hkx hky hkb hkp hkq
  have HX := Lib.hid hx
  have HP := Lib.hid hp
  have HQ := Lib.hid hq
  have HB := Lib.hid hb
  have HN := Lib.hid hn
  clear hx hp hq hb hn
  have g1 : (r.ht : Int) + 1 < (max x.ht (max p.ht q.ht + 1) + 1 : Nat) := by omega
  have g2 : (x.ht : Int) < (max p.ht q.ht + 1 : Nat) := by omega
  simp only [Tr.ht] at ca5 h1
  generalize max x.ht (max p.ht q.ht + 1) + 1 = hA at *
  generalize max p.ht q.ht + 1 = hC at *
  generalize ex : x.ht = tx at *
  generalize ep : p.ht = tp at *
  generalize eq : q.ht = tq at *
  generalize er : r.ht = tr at *
  unfold ptr at *
  go_enter Try.func43, Try.ntmps43
  go_wp2_with fail
  go_quiet (fail)
  go_wp2_with fail
  go_quiet (fail)
  go_wp2_with fail
  refine wp_from (w := w) (by first | exact kept_drewN w _ | exact (kept_drewN w _).trans (kept_drewN _ _) | exact ((kept_drewN w _).trans (kept_drewN _ _)).trans (kept_drewN _ _)) ?_
  intro w1 hk1
  refine wp_abs (fun a => a.tmps.size = 126 ∧ a.defers = [] ∧ a.eval (.tmp 0) = .pointer (some ⟨ka, 0, none⟩) ∧ a.eval (.tmp 1) = .pointer (some ⟨kb, 0, none⟩)) ⟨rfl, rfl, rfl, rfl⟩ ?_
  rintro a0 ⟨hsz, hdef, h0, h1⟩
  have hkw1 : Kept w w1.drew := hk1.trans (Kept.drew (Kept.refl _))
  have hkw : ∀ wr, Kept w1.drew wr → Kept w wr := fun wr h => hk1.trans ((Kept.drew (Kept.refl _)).trans h)
  have L : ∀ wr, Kept w1.drew wr → wr.cell? ⟨ka, 0, none⟩ = some (.pointer (some ⟨kx, 0, none⟩)) ∧ wr.cell? ⟨ka, 1, none⟩ = some (.pointer (some ⟨ky, 0, none⟩)) ∧ wr.cell? ⟨ky, 0, none⟩ = some (.pointer (some ⟨kp, 0, none⟩)) ∧ wr.cell? ⟨ky, 1, none⟩ = some (.pointer (some ⟨kq, 0, none⟩)) := fun wr h => ⟨(hkw wr h).cell ca0, (hkw wr h).cell ca1, (hkw wr h).cell y0, (hkw wr h).cell y1⟩
  refine wp_region_plan Kept pre_kept (vat [isv (.pointer (some ⟨ka, 0, none⟩)),
      isv (.pointer (some ⟨ka, 0, none⟩)),
      isv (.pointer (some ⟨ka, 0, none⟩)),
      isv (.pointer (some ⟨kx, 0, none⟩)),
      isv (.pointer (some ⟨ka, 0, none⟩)),
      isv (.pointer (some ⟨ka, 0, none⟩)),
      isv (.pointer (some ⟨ka, 1, none⟩)),
      isv (.pointer (some ⟨ky, 0, none⟩)),
      isv (.pointer (some ⟨ky, 0, none⟩)),
      isv (.pointer (some ⟨ky, 0, none⟩)),
      isv (.pointer (some ⟨kp, 0, none⟩)),
      fun u w' => At w' u (.node x p),
      isv (.pointer (some ⟨ka, 0, none⟩)),
      isv (.pointer (some ⟨ka, 0, none⟩)),
      isv (.pointer (some ⟨ka, 1, none⟩)),
      isv (.pointer (some ⟨ky, 0, none⟩)),
      isv (.pointer (some ⟨ky, 0, none⟩)),
      isv (.pointer (some ⟨ky, 1, none⟩)),
      isv (.pointer (some ⟨kq, 0, none⟩)),
      isv (.pointer (some ⟨kb, 0, none⟩)),
      fun u w' => At w' u (.node q r),
      fun u w' => At w' u (.node (.node x p) (.node q r))])
    (fun u w' => At w' u (.node (.node x p) (.node q r)) ∧ Kept w1.drew w')
    [([(0, none)], none), ([(42, some 0)], none), ([(43, some 1)], none), ([(44, some 2)], none), ([(0, none)], none), ([(46, some 4)], none), ([(47, some 5)], none), ([(48, some 6)], none), ([(49, some 7)], none), ([(50, some 8)], none), ([(51, some 9)], none), ([(45, some 3), (52, some 10)], none), ([(0, none)], none), ([(54, some 12)], none), ([(55, some 13)], none), ([(56, some 14)], none), ([(57, some 15)], none), ([(58, some 16)], none), ([(59, some 17)], none), ([(1, none)], none), ([(60, some 18), (61, some 19)], none), ([(53, some 11), (62, some 20)], none), ([(63, some 21)], none)]
    (by kernel_rfl) 126 hsz (by kernel_rfl) (by kernel_rfl) (by decide) ?st ?steps ?fin
  case st =>
    refine stays_vat _ _ fun q hq => ?_
    simp only [List.mem_cons, List.not_mem_nil, or_false] at hq
    rcases hq with rfl | rfl | rfl | rfl | rfl | rfl | rfl | rfl | rfl | rfl | rfl | rfl | rfl | rfl | rfl | rfl | rfl | rfl | rfl | rfl | rfl | rfl
    all_goals first | exact stays_isv _ _ | (intro u x y hg h; exact At.kept h hg)
  case fin =>
    rintro a o u w' hL ho ⟨hu, hk⟩
    simp at ho
    subst ho
    rename_i K hK
    refine hK _ _ (wp_ret ?_)
    simp only [Exit.then, Exit.inBlock]
    exact ret_put (fn := Try.f43) (d := 4) rfl (by rw [hL.tsize, hsz]; decide) (hL.defers.trans hdef) ⟨u, rfl, hu, hkw1.trans hk⟩
  case steps =>
    refine ⟨?_, ?_, ?_, ?_, ?_, ?_, ?_, ?_, ?_, ?_, ?_, ?_, ?_, ?_, ?_, ?_, ?_, ?_, ?_, ?_, ?_, ?_, ?_⟩
    all_goals
      intro ρ wr hg hn hc hf hgl
      simp only [Need, vat, List.getD_cons_zero, List.getD_cons_succ, isv, and_true, h0, h1] at hn ⊢
    · simp [wantP, execOp, Ups, hn, hc, pre_kept.refl, go_sem]
    · simp [wantP, execOp, Ups, hn, hc, pre_kept.refl, go_sem]
    · simp [wantP, execOp, Ups, hn, hc, pre_kept.refl, go_sem]
    · have hl := L wr hg
      simp [wantP, execOp, Ups, hn, hl, pre_kept.refl, go_sem]
    · simp [wantP, execOp, Ups, hn, hc, pre_kept.refl, go_sem]
    · simp [wantP, execOp, Ups, hn, hc, pre_kept.refl, go_sem]
    · simp [wantP, execOp, Ups, hn, hc, pre_kept.refl, go_sem]
    · have hl := L wr hg
      simp [wantP, execOp, Ups, hn, hl, pre_kept.refl, go_sem]
    · simp [wantP, execOp, Ups, hn, hc, pre_kept.refl, go_sem]
    · simp [wantP, execOp, Ups, hn, hc, pre_kept.refl, go_sem]
    · have hl := L wr hg
      simp [wantP, execOp, Ups, hn, hl, pre_kept.refl, go_sem]
    · obtain ⟨m0, m1⟩ := hn
      simp only [wantP, if_true]
      unfold execOp
      go_simp
      refine (pair_any _ _ x p wr (HX.out.kept (hkw wr hg)) (HP.out.kept (hkw wr hg)) (by have := HN.out; (try simp only [Tr.text, Tr.ht, List.length_append]); omega) (by have := HN.out; (try simp only [Tr.text, Tr.ht, List.length_append]); omega) (by have := HN.out; (try simp only [Tr.text, Tr.ht, List.length_append]); omega)).mono ?_
      rintro e w3 ⟨v3, rfl, h3, hk3⟩
      exact ⟨v3, rfl, h3, hk3⟩
    · simp [wantP, execOp, Ups, hn, hc, pre_kept.refl, go_sem]
    · simp [wantP, execOp, Ups, hn, hc, pre_kept.refl, go_sem]
    · simp [wantP, execOp, Ups, hn, hc, pre_kept.refl, go_sem]
    · have hl := L wr hg
      simp [wantP, execOp, Ups, hn, hl, pre_kept.refl, go_sem]
    · simp [wantP, execOp, Ups, hn, hc, pre_kept.refl, go_sem]
    · simp [wantP, execOp, Ups, hn, hc, pre_kept.refl, go_sem]
    · have hl := L wr hg
      simp [wantP, execOp, Ups, hn, hl, pre_kept.refl, go_sem]
    · simp [wantP, execOp, Ups, hn, hc, pre_kept.refl, go_sem]
    · obtain ⟨m0, m1⟩ := hn
      simp only [wantP, if_true]
      unfold execOp
      go_simp
      refine (pair_any _ _ q r wr (HQ.out.kept (hkw wr hg)) (HB.out.kept (hkw wr hg)) (by have := HN.out; (try simp only [Tr.text, Tr.ht, List.length_append]); omega) (by have := HN.out; (try simp only [Tr.text, Tr.ht, List.length_append]); omega) (by have := HN.out; (try simp only [Tr.text, Tr.ht, List.length_append]); omega)).mono ?_
      rintro e w3 ⟨v3, rfl, h3, hk3⟩
      exact ⟨v3, rfl, h3, hk3⟩
    · obtain ⟨m0, m1⟩ := hn
      have M0 := Lib.hid m0
      clear m0
      have M1 := Lib.hid m1
      clear m1
      simp only [wantP, if_true]
      unfold execOp
      go_simp
      refine (pair_any _ _ (.node x p) (.node q r) wr M0.out M1.out (by have := HN.out; (try simp only [Tr.text, Tr.ht, List.length_append]); omega) (by have := HN.out; (try simp only [Tr.text, Tr.ht, List.length_append]); omega) (by have := HN.out; (try simp only [Tr.text, Tr.ht, List.length_append]); omega)).mono ?_
      rintro e w3 ⟨v3, rfl, h3, hk3⟩
      exact ⟨v3, rfl, h3, hk3⟩
    · have HU := Lib.hid hn
      clear hn
      simp only [wantP, if_true]
      unfold execOp
      go_simp
      exact ⟨HU.out, hg⟩
set_option maxHeartbeats 1000000 in
theorem balB1 (a b : Value) (x y r : Tr) (w : World) (ha : At w a r) (hb : At w b (.node y x)) (hxh : x.ht ≤ 100000000000000) (hyh : y.ht ≤ 100000000000000) (hrh : r.ht ≤ 100000000000000) (hn : x.text.length + y.text.length + r.text.length ≤ 100000000000000) (h1 : r.ht + 1 < max y.ht x.ht + 1) (h2 : y.ht ≤ x.ht) :
    Calls Try.prog 43 #[a, b] w fun e w' => ∃ v, e = .returned v ∧ At w' v (.node (.node r y) x) ∧ Kept w w' := by
  obtain ⟨kb, by1, bx, rfl, hkb, hy, hx⟩ := hb
  obtain ⟨kx, x1, x2, xs, rfl, hkx⟩ := hx.block
  obtain ⟨ky, y1, y2, ys, rfl, hky⟩ := hy.block
  obtain ⟨ka, aa1, aa2, aas, rfl, hka⟩ := ha.block
  obtain ⟨b0, b1, -, -, -, b5⟩ := box6 hkb
  obtain ⟨-, -, -, -, -, x5⟩ := box6 hkx
  obtain ⟨-, -, -, -, -, y5⟩ := box6 hky
  obtain ⟨-, -, -, -, -, r5⟩ := box6 hka
  clear hka hkx hky hkb
  have HX := Lib.hid hx
  have HY := Lib.hid hy
  have HA := Lib.hid ha
  have HN := Lib.hid hn
  clear hx hy ha hn
  have g0 : ¬ ((max y.ht x.ht + 1 : Nat) : Int) + 1 < (r.ht : Int) := by omega
  have g1 : (r.ht : Int) + 1 < (max y.ht x.ht + 1 : Nat) := by omega
  have g2 : (y.ht : Int) ≤ x.ht := by omega
  have g3 : max y.ht x.ht + 1 ≤ 1000000000000000 := by omega
  generalize max y.ht x.ht + 1 = hA at *
  generalize ex : x.ht = tx at *
  generalize ey : y.ht = ty at *
  generalize er : r.ht = tr at *
  unfold ptr at *
  go_enter Try.func43, Try.ntmps43
  go_wp2_with fail
  go_quiet (fail)
  go_wp2_with fail
  go_quiet (fail)
  go_wp2_with fail
  go_quiet (fail)
  go_wp2_with fail
  refine wp_from (w := w) (by first | exact kept_drewN w _ | exact (kept_drewN w _).trans (kept_drewN _ _) | exact ((kept_drewN w _).trans (kept_drewN _ _)).trans (kept_drewN _ _)) ?_
  intro w1 hk1
  refine wp_abs (fun a => a.tmps.size = 126 ∧ a.defers = [] ∧ a.eval (.tmp 0) = .pointer (some ⟨ka, 0, none⟩) ∧ a.eval (.tmp 1) = .pointer (some ⟨kb, 0, none⟩)) ⟨rfl, rfl, rfl, rfl⟩ ?_
  rintro a0 ⟨hsz, hdef, h0, h1⟩
  have hkw1 : Kept w w1.drew := hk1.trans (Kept.drew (Kept.refl _))
  have hkw : ∀ wr, Kept w1.drew wr → Kept w wr := fun wr h => hk1.trans ((Kept.drew (Kept.refl _)).trans h)
  have L : ∀ wr, Kept w1.drew wr → wr.cell? ⟨kb, 0, none⟩ = some (.pointer (some ⟨ky, 0, none⟩)) ∧ wr.cell? ⟨kb, 1, none⟩ = some (.pointer (some ⟨kx, 0, none⟩)) := fun wr h => ⟨(hkw wr h).cell b0, (hkw wr h).cell b1⟩
  refine wp_region_plan Kept pre_kept (vat [isv (.pointer (some ⟨ka, 0, none⟩)),
      isv (.pointer (some ⟨kb, 0, none⟩)),
      isv (.pointer (some ⟨kb, 0, none⟩)),
      isv (.pointer (some ⟨kb, 0, none⟩)),
      isv (.pointer (some ⟨ky, 0, none⟩)),
      fun u w' => At w' u (.node r y),
      isv (.pointer (some ⟨kb, 0, none⟩)),
      isv (.pointer (some ⟨kb, 0, none⟩)),
      isv (.pointer (some ⟨kb, 1, none⟩)),
      isv (.pointer (some ⟨kx, 0, none⟩)),
      fun u w' => At w' u (.node (.node r y) x)])
    (fun u w' => At w' u (.node (.node r y) x) ∧ Kept w1.drew w')
    [([(0, none)], none), ([(1, none)], none), ([(91, some 1)], none), ([(92, some 2)], none), ([(93, some 3)], none), ([(90, some 0), (94, some 4)], none), ([(1, none)], none), ([(96, some 6)], none), ([(97, some 7)], none), ([(98, some 8)], none), ([(95, some 5), (99, some 9)], none), ([(100, some 10)], none)]
    (by kernel_rfl) 126 hsz (by kernel_rfl) (by kernel_rfl) (by decide) ?st ?steps ?fin
  case st =>
    refine stays_vat _ _ fun q hq => ?_
    simp only [List.mem_cons, List.not_mem_nil, or_false] at hq
    rcases hq with rfl | rfl | rfl | rfl | rfl | rfl | rfl | rfl | rfl | rfl | rfl
    all_goals first | exact stays_isv _ _ | (intro u x y hg h; exact At.kept h hg)
  case fin =>
    rintro a o u w' hL ho ⟨hu, hk⟩
    simp at ho
    subst ho
    rename_i K hK
    refine hK _ _ (wp_ret ?_)
    simp only [Exit.then, Exit.inBlock]
    exact ret_put (fn := Try.f43) (d := 4) rfl (by rw [hL.tsize, hsz]; decide) (hL.defers.trans hdef) ⟨u, rfl, hu, hkw1.trans hk⟩
  case steps =>
    refine ⟨?_, ?_, ?_, ?_, ?_, ?_, ?_, ?_, ?_, ?_, ?_, ?_⟩
    all_goals
      intro ρ wr hg hn hc hf hgl
      simp only [Need, vat, List.getD_cons_zero, List.getD_cons_succ, isv, and_true, h0, h1] at hn ⊢
    · simp [wantP, execOp, Ups, hn, hc, pre_kept.refl, go_sem]
    · simp [wantP, execOp, Ups, hn, hc, pre_kept.refl, go_sem]
    · simp [wantP, execOp, Ups, hn, hc, pre_kept.refl, go_sem]
    · simp [wantP, execOp, Ups, hn, hc, pre_kept.refl, go_sem]
    · have hl := L wr hg
      simp [wantP, execOp, Ups, hn, hl, pre_kept.refl, go_sem]
    · obtain ⟨m0, m1⟩ := hn
      simp only [wantP, if_true]
      unfold execOp
      go_simp
      refine (pair_any _ _ r y wr (HA.out.kept (hkw wr hg)) (HY.out.kept (hkw wr hg)) (by have := HN.out; (try simp only [Tr.text, Tr.ht, List.length_append]); omega) (by have := HN.out; (try simp only [Tr.text, Tr.ht, List.length_append]); omega) (by have := HN.out; (try simp only [Tr.text, Tr.ht, List.length_append]); omega)).mono ?_
      rintro e w3 ⟨v3, rfl, h3, hk3⟩
      exact ⟨v3, rfl, h3, hk3⟩
    · simp [wantP, execOp, Ups, hn, hc, pre_kept.refl, go_sem]
    · simp [wantP, execOp, Ups, hn, hc, pre_kept.refl, go_sem]
    · simp [wantP, execOp, Ups, hn, hc, pre_kept.refl, go_sem]
    · have hl := L wr hg
      simp [wantP, execOp, Ups, hn, hl, pre_kept.refl, go_sem]
    · obtain ⟨m0, m1⟩ := hn
      have M0 := Lib.hid m0
      clear m0
      simp only [wantP, if_true]
      unfold execOp
      go_simp
      refine (pair_any _ _ (.node r y) x wr M0.out (HX.out.kept (hkw wr hg)) (by have := HN.out; (try simp only [Tr.text, Tr.ht, List.length_append]); omega) (by have := HN.out; (try simp only [Tr.text, Tr.ht, List.length_append]); omega) (by have := HN.out; (try simp only [Tr.text, Tr.ht, List.length_append]); omega)).mono ?_
      rintro e w3 ⟨v3, rfl, h3, hk3⟩
      exact ⟨v3, rfl, h3, hk3⟩
    · have HU := Lib.hid hn
      clear hn
      simp only [wantP, if_true]
      unfold execOp
      go_simp
      exact ⟨HU.out, hg⟩
set_option maxHeartbeats 1000000 in
theorem balB2 (a b : Value) (x p q r : Tr) (w : World) (ha : At w a r) (hb : At w b (.node (.node p q) x)) (hxh : x.ht ≤ 100000000000000) (hph : p.ht ≤ 100000000000000) (hqh : q.ht ≤ 100000000000000) (hrh : r.ht ≤ 100000000000000) (hn : x.text.length + p.text.length + q.text.length + r.text.length ≤ 100000000000000) (h1 : r.ht + 1 < max (max p.ht q.ht + 1) x.ht + 1) (h2 : x.ht < max p.ht q.ht + 1) :
    Calls Try.prog 43 #[a, b] w fun e w' => ∃ v, e = .returned v ∧ At w' v (.node (.node r p) (.node q x)) ∧ Kept w w' := by
  obtain ⟨kb, by1, bx, rfl, hkb, hy, hx⟩ := hb
  obtain ⟨kx, x1, x2, xs, rfl, hkx⟩ := hx.block
  obtain ⟨ky, yp, yq, rfl, hky, hp, hq⟩ := hy
  obtain ⟨kp, p1, p2, ps, rfl, hkp⟩ := hp.block
  obtain ⟨kq, q1, q2, qs, rfl, hkq⟩ := hq.block
  obtain ⟨ka, aa1, aa2, aas, rfl, hka⟩ := ha.block
  obtain ⟨b0, b1, -, -, -, b5⟩ := box6 hkb
  obtain ⟨-, -, -, -, -, x5⟩ := box6 hkx
  obtain ⟨y0, y1, -, -, -, y5⟩ := box6 hky
  obtain ⟨-, -, -, -, -, r5⟩ := box6 hka
  clear hka hkx hky hkb hkp hkq
  have HX := Lib.hid hx
  have HP := Lib.hid hp
  have HQ := Lib.hid hq
  have HA := Lib.hid ha
  have HN := Lib.hid hn
  clear hx hp hq ha hn
  have g0 : ¬ ((max (max p.ht q.ht + 1) x.ht + 1 : Nat) : Int) + 1 < (r.ht : Int) := by omega
  have g1 : (r.ht : Int) + 1 < (max (max p.ht q.ht + 1) x.ht + 1 : Nat) := by omega
  have g2 : (x.ht : Int) < (max p.ht q.ht + 1 : Nat) := by omega
  have g3 : max (max p.ht q.ht + 1) x.ht + 1 ≤ 1000000000000000 := by omega
  simp only [Tr.ht] at b5 h1
  generalize max (max p.ht q.ht + 1) x.ht + 1 = hA at *
  generalize max p.ht q.ht + 1 = hC at *
  generalize ex : x.ht = tx at *
  generalize ep : p.ht = tp at *
  generalize eq : q.ht = tq at *
  generalize er : r.ht = tr at *
  unfold ptr at *
  go_enter Try.func43, Try.ntmps43
  go_wp2_with fail
  go_quiet (fail)
  go_wp2_with fail
  go_quiet (fail)
  go_wp2_with fail
  go_quiet (fail)
  go_wp2_with fail
  refine wp_from (w := w) (by first | exact kept_drewN w _ | exact (kept_drewN w _).trans (kept_drewN _ _) | exact ((kept_drewN w _).trans (kept_drewN _ _)).trans (kept_drewN _ _)) ?_
  intro w1 hk1
  refine wp_abs (fun a => a.tmps.size = 126 ∧ a.defers = [] ∧ a.eval (.tmp 0) = .pointer (some ⟨ka, 0, none⟩) ∧ a.eval (.tmp 1) = .pointer (some ⟨kb, 0, none⟩)) ⟨rfl, rfl, rfl, rfl⟩ ?_
  rintro a0 ⟨hsz, hdef, h0, h1⟩
  have hkw1 : Kept w w1.drew := hk1.trans (Kept.drew (Kept.refl _))
  have hkw : ∀ wr, Kept w1.drew wr → Kept w wr := fun wr h => hk1.trans ((Kept.drew (Kept.refl _)).trans h)
  have L : ∀ wr, Kept w1.drew wr → wr.cell? ⟨kb, 0, none⟩ = some (.pointer (some ⟨ky, 0, none⟩)) ∧ wr.cell? ⟨kb, 1, none⟩ = some (.pointer (some ⟨kx, 0, none⟩)) ∧ wr.cell? ⟨ky, 0, none⟩ = some (.pointer (some ⟨kp, 0, none⟩)) ∧ wr.cell? ⟨ky, 1, none⟩ = some (.pointer (some ⟨kq, 0, none⟩)) := fun wr h => ⟨(hkw wr h).cell b0, (hkw wr h).cell b1, (hkw wr h).cell y0, (hkw wr h).cell y1⟩
  refine wp_region_plan Kept pre_kept (vat [isv (.pointer (some ⟨ka, 0, none⟩)),
      isv (.pointer (some ⟨kb, 0, none⟩)),
      isv (.pointer (some ⟨kb, 0, none⟩)),
      isv (.pointer (some ⟨kb, 0, none⟩)),
      isv (.pointer (some ⟨ky, 0, none⟩)),
      isv (.pointer (some ⟨ky, 0, none⟩)),
      isv (.pointer (some ⟨ky, 0, none⟩)),
      isv (.pointer (some ⟨kp, 0, none⟩)),
      fun u w' => At w' u (.node r p),
      isv (.pointer (some ⟨kb, 0, none⟩)),
      isv (.pointer (some ⟨kb, 0, none⟩)),
      isv (.pointer (some ⟨kb, 0, none⟩)),
      isv (.pointer (some ⟨ky, 0, none⟩)),
      isv (.pointer (some ⟨ky, 0, none⟩)),
      isv (.pointer (some ⟨ky, 1, none⟩)),
      isv (.pointer (some ⟨kq, 0, none⟩)),
      isv (.pointer (some ⟨kb, 0, none⟩)),
      isv (.pointer (some ⟨kb, 0, none⟩)),
      isv (.pointer (some ⟨kb, 1, none⟩)),
      isv (.pointer (some ⟨kx, 0, none⟩)),
      fun u w' => At w' u (.node q x),
      fun u w' => At w' u (.node (.node r p) (.node q x))])
    (fun u w' => At w' u (.node (.node r p) (.node q x)) ∧ Kept w1.drew w')
    [([(0, none)], none), ([(1, none)], none), ([(102, some 1)], none), ([(103, some 2)], none), ([(104, some 3)], none), ([(105, some 4)], none), ([(106, some 5)], none), ([(107, some 6)], none), ([(101, some 0), (108, some 7)], none), ([(1, none)], none), ([(110, some 9)], none), ([(111, some 10)], none), ([(112, some 11)], none), ([(113, some 12)], none), ([(114, some 13)], none), ([(115, some 14)], none), ([(1, none)], none), ([(117, some 16)], none), ([(118, some 17)], none), ([(119, some 18)], none), ([(116, some 15), (120, some 19)], none), ([(109, some 8), (121, some 20)], none), ([(122, some 21)], none)]
    (by kernel_rfl) 126 hsz (by kernel_rfl) (by kernel_rfl) (by decide) ?st ?steps ?fin
  case st =>
    refine stays_vat _ _ fun q hq => ?_
    simp only [List.mem_cons, List.not_mem_nil, or_false] at hq
    rcases hq with rfl | rfl | rfl | rfl | rfl | rfl | rfl | rfl | rfl | rfl | rfl | rfl | rfl | rfl | rfl | rfl | rfl | rfl | rfl | rfl | rfl | rfl
    all_goals first | exact stays_isv _ _ | (intro u x y hg h; exact At.kept h hg)
  case fin =>
    rintro a o u w' hL ho ⟨hu, hk⟩
    simp at ho
    subst ho
    rename_i K hK
    refine hK _ _ (wp_ret ?_)
    simp only [Exit.then, Exit.inBlock]
    exact ret_put (fn := Try.f43) (d := 4) rfl (by rw [hL.tsize, hsz]; decide) (hL.defers.trans hdef) ⟨u, rfl, hu, hkw1.trans hk⟩
  case steps =>
    refine ⟨?_, ?_, ?_, ?_, ?_, ?_, ?_, ?_, ?_, ?_, ?_, ?_, ?_, ?_, ?_, ?_, ?_, ?_, ?_, ?_, ?_, ?_, ?_⟩
    all_goals
      intro ρ wr hg hn hc hf hgl
      simp only [Need, vat, List.getD_cons_zero, List.getD_cons_succ, isv, and_true, h0, h1] at hn ⊢
    · simp [wantP, execOp, Ups, hn, hc, pre_kept.refl, go_sem]
    · simp [wantP, execOp, Ups, hn, hc, pre_kept.refl, go_sem]
    · simp [wantP, execOp, Ups, hn, hc, pre_kept.refl, go_sem]
    · simp [wantP, execOp, Ups, hn, hc, pre_kept.refl, go_sem]
    · have hl := L wr hg
      simp [wantP, execOp, Ups, hn, hl, pre_kept.refl, go_sem]
    · simp [wantP, execOp, Ups, hn, hc, pre_kept.refl, go_sem]
    · simp [wantP, execOp, Ups, hn, hc, pre_kept.refl, go_sem]
    · have hl := L wr hg
      simp [wantP, execOp, Ups, hn, hl, pre_kept.refl, go_sem]
    · obtain ⟨m0, m1⟩ := hn
      simp only [wantP, if_true]
      unfold execOp
      go_simp
      refine (pair_any _ _ r p wr (HA.out.kept (hkw wr hg)) (HP.out.kept (hkw wr hg)) (by have := HN.out; (try simp only [Tr.text, Tr.ht, List.length_append]); omega) (by have := HN.out; (try simp only [Tr.text, Tr.ht, List.length_append]); omega) (by have := HN.out; (try simp only [Tr.text, Tr.ht, List.length_append]); omega)).mono ?_
      rintro e w3 ⟨v3, rfl, h3, hk3⟩
      exact ⟨v3, rfl, h3, hk3⟩
    · simp [wantP, execOp, Ups, hn, hc, pre_kept.refl, go_sem]
    · simp [wantP, execOp, Ups, hn, hc, pre_kept.refl, go_sem]
    · simp [wantP, execOp, Ups, hn, hc, pre_kept.refl, go_sem]
    · have hl := L wr hg
      simp [wantP, execOp, Ups, hn, hl, pre_kept.refl, go_sem]
    · simp [wantP, execOp, Ups, hn, hc, pre_kept.refl, go_sem]
    · simp [wantP, execOp, Ups, hn, hc, pre_kept.refl, go_sem]
    · have hl := L wr hg
      simp [wantP, execOp, Ups, hn, hl, pre_kept.refl, go_sem]
    · simp [wantP, execOp, Ups, hn, hc, pre_kept.refl, go_sem]
    · simp [wantP, execOp, Ups, hn, hc, pre_kept.refl, go_sem]
    · simp [wantP, execOp, Ups, hn, hc, pre_kept.refl, go_sem]
    · have hl := L wr hg
      simp [wantP, execOp, Ups, hn, hl, pre_kept.refl, go_sem]
    · obtain ⟨m0, m1⟩ := hn
      simp only [wantP, if_true]
      unfold execOp
      go_simp
      refine (pair_any _ _ q x wr (HQ.out.kept (hkw wr hg)) (HX.out.kept (hkw wr hg)) (by have := HN.out; (try simp only [Tr.text, Tr.ht, List.length_append]); omega) (by have := HN.out; (try simp only [Tr.text, Tr.ht, List.length_append]); omega) (by have := HN.out; (try simp only [Tr.text, Tr.ht, List.length_append]); omega)).mono ?_
      rintro e w3 ⟨v3, rfl, h3, hk3⟩
      exact ⟨v3, rfl, h3, hk3⟩
    · obtain ⟨m0, m1⟩ := hn
      have M0 := Lib.hid m0
      clear m0
      have M1 := Lib.hid m1
      clear m1
      simp only [wantP, if_true]
      unfold execOp
      go_simp
      refine (pair_any _ _ (.node r p) (.node q x) wr M0.out M1.out (by have := HN.out; (try simp only [Tr.text, Tr.ht, List.length_append]); omega) (by have := HN.out; (try simp only [Tr.text, Tr.ht, List.length_append]); omega) (by have := HN.out; (try simp only [Tr.text, Tr.ht, List.length_append]); omega)).mono ?_
      rintro e w3 ⟨v3, rfl, h3, hk3⟩
      exact ⟨v3, rfl, h3, hk3⟩
    · have HU := Lib.hid hn
      clear hn
      simp only [wantP, if_true]
      unfold execOp
      go_simp
      exact ⟨HU.out, hg⟩
set_option maxHeartbeats 1000000 in
theorem balC (a b : Value) (x r : Tr) (w : World) (ha : At w a x) (hb : At w b r) (hxh : x.ht ≤ 100000000000000) (hrh : r.ht ≤ 100000000000000) (hn : x.text.length + r.text.length ≤ 100000000000000) (h1 : x.ht ≤ r.ht + 1) (h2 : r.ht ≤ x.ht + 1) :
    Calls Try.prog 43 #[a, b] w fun e w' => ∃ v, e = .returned v ∧ At w' v (.node x r) ∧ Kept w w' := by
  obtain ⟨ka, aa1, aa2, aas, rfl, hka⟩ := ha.block
  obtain ⟨kb, b1, b2, bs, rfl, hkb⟩ := hb.block
  obtain ⟨-, -, -, -, -, a5⟩ := box6 hka
  obtain ⟨-, -, -, -, -, b5⟩ := box6 hkb
  clear hka hkb
  have HA := Lib.hid ha
  have HB := Lib.hid hb
  have HN := Lib.hid hn
  clear ha hb hn
  have g0 : ¬ (r.ht : Int) + 1 < x.ht := by omega
  have g1 : ¬ (x.ht : Int) + 1 < r.ht := by omega
  have HL := Lib.hid (And.intro hxh hrh)
  generalize ex : x.ht = tx at *
  generalize er : r.ht = tr at *
  unfold ptr at *
  go_enter Try.func43, Try.ntmps43
  go_wp2_with fail
  go_quiet (fail)
  go_wp2_with fail
  go_quiet (fail)
  go_wp2_with fail
  refine (pair_any _ _ x r _ (HA.out.kept (kept_drewN w _)) (HB.out.kept (kept_drewN w _)) (by omega) (by omega) HN.out).mono ?_
  rintro e w3 ⟨v3, rfl, h3, hk3⟩
  have HV := Lib.hid (And.intro h3 ((kept_drewN w _).trans hk3))
  clear h3 hk3
  obtain ⟨j3, c1, c2, c3, rfl, -⟩ := HV.out.1.block
  unfold ptr at *
  go_wp2_with fail
  go_ret
  exact ⟨_, rfl, HV.out.1, HV.out.2⟩

theorem balance_any (a b : Value) (l r : Tr) (w : World) (ha : At w a l) (hb : At w b r) (hl : l.Ok) (hr : r.Ok) (hn : l.text.length + r.text.length ≤ 100000000000000) (h1 : l.ht ≤ r.ht + 2) (h2 : r.ht ≤ l.ht + 2) :
    Calls Try.prog 43 #[a, b] w fun e w' => ∃ v t, e = .returned v ∧ At w' v t ∧ t.Ok ∧ t.text = l.text ++ r.text ∧ max l.ht r.ht ≤ t.ht ∧ t.ht ≤ max l.ht r.ht + 1 ∧ (l.ht ≤ r.ht + 1 → r.ht ≤ l.ht + 1 → t.ht = max l.ht r.ht + 1) ∧ Kept w w' := by
  have hlh := l.ht_le hl
  have hrh := r.ht_le hr
  by_cases c1 : r.ht + 1 < l.ht
  · match l, ha, hl, h1, h2, hlh, hn, c1 with
    | .leaf _, _, _, _, _, _, _, c1 => simp only [Tr.ht] at c1; omega
    | .node x y, ha, ⟨ox, oy, d1, d2⟩, h1, h2, hlh, hn, c1 =>
      have hx := x.ht_le ox
      have hy := y.ht_le oy
      simp only [Tr.text, Tr.ht, List.length_append] at *
      by_cases c2 : y.ht ≤ x.ht
      · refine (balA1 a b x y r w ha hb (by omega) (by omega) (by omega) (by omega) c1 c2).mono ?_
        rintro e w' ⟨v, rfl, hv, hk⟩
        refine ⟨v, _, rfl, hv, ⟨ox, ⟨oy, hr, ?_, ?_⟩, ?_, ?_⟩, ?_, ?_, ?_, ?_, hk⟩ <;> (try simp only [Tr.ht, Tr.text, List.append_assoc]) <;> omega
      · match y, ha, oy, d1, d2, hy, h1, h2, hlh, hn, c1, c2 with
        | .leaf _, _, _, _, _, _, _, _, _, _, _, c2 => have := x.ht_pos; simp only [Tr.ht] at c2; omega
        | .node p q, ha, ⟨op, oq, d3, d4⟩, d1, d2, hy, h1, h2, hlh, hn, c1, c2 =>
          have hp := p.ht_le op
          have hq := q.ht_le oq
          simp only [Tr.text, Tr.ht, List.length_append] at *
          refine (balA2 a b x p q r w ha hb (by omega) (by omega) (by omega) (by omega) (by omega) c1 (by omega)).mono ?_
          rintro e w' ⟨v, rfl, hv, hk⟩
          refine ⟨v, _, rfl, hv, ⟨⟨ox, op, ?_, ?_⟩, ⟨oq, hr, ?_, ?_⟩, ?_, ?_⟩, ?_, ?_, ?_, ?_, hk⟩ <;> (try simp only [Tr.ht, Tr.text, List.append_assoc]) <;> omega
  · by_cases c3 : l.ht + 1 < r.ht
    · match r, hb, hr, h1, h2, hrh, hn, c1, c3 with
      | .leaf _, _, _, _, _, _, _, _, c3 => simp only [Tr.ht] at c3; omega
      | .node y x, hb, ⟨oy, ox, d1, d2⟩, h1, h2, hrh, hn, c1, c3 =>
        have hx := x.ht_le ox
        have hy := y.ht_le oy
        simp only [Tr.text, Tr.ht, List.length_append] at *
        by_cases c2 : y.ht ≤ x.ht
        · refine (balB1 a b x y l w ha hb (by omega) (by omega) (by omega) (by omega) c3 c2).mono ?_
          rintro e w' ⟨v, rfl, hv, hk⟩
          refine ⟨v, _, rfl, hv, ⟨⟨hl, oy, ?_, ?_⟩, ox, ?_, ?_⟩, ?_, ?_, ?_, ?_, hk⟩ <;> (try simp only [Tr.ht, Tr.text, List.append_assoc]) <;> omega
        · match y, hb, oy, d1, d2, hy, h1, h2, hrh, hn, c1, c2, c3 with
          | .leaf _, _, _, _, _, _, _, _, _, _, _, c2, _ => have := x.ht_pos; simp only [Tr.ht] at c2; omega
          | .node p q, hb, ⟨op, oq, d3, d4⟩, d1, d2, hy, h1, h2, hrh, hn, c1, c2, c3 =>
            have hp := p.ht_le op
            have hq := q.ht_le oq
            simp only [Tr.text, Tr.ht, List.length_append] at *
            refine (balB2 a b x p q l w ha hb (by omega) (by omega) (by omega) (by omega) (by omega) c3 (by omega)).mono ?_
            rintro e w' ⟨v, rfl, hv, hk⟩
            refine ⟨v, _, rfl, hv, ⟨⟨hl, op, ?_, ?_⟩, ⟨oq, ox, ?_, ?_⟩, ?_, ?_⟩, ?_, ?_, ?_, ?_, hk⟩ <;> (try simp only [Tr.ht, Tr.text, List.append_assoc]) <;> omega
    · refine (balC a b l r w ha hb (by omega) (by omega) hn (by omega) (by omega)).mono ?_
      rintro e w' ⟨v, rfl, hv, hk⟩
      refine ⟨v, _, rfl, hv, ⟨hl, hr, by omega, by omega⟩, rfl, by simp only [Tr.ht]; omega, by simp only [Tr.ht]; omega, fun _ _ => rfl, hk⟩
end Go.Proofs.Ytdobbindilibjaa
