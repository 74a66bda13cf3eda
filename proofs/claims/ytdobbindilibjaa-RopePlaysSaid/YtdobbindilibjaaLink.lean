/-
  What rope.link does, on values and memory.
-/
import Derived.Test.YtdobbindilibjaaBal
set_option linter.unusedSimpArgs false
namespace Go.Proofs.Ytdobbindilibjaa.Kit
open Go Go.RowKit
/-- A balanced tree of that text, its height within bounds. -/
def Lk (w : World) (v : Value) (s : List UInt8) (lo hi : Nat) : Prop := ∃ t, At w v t ∧ t.Ok ∧ t.text = s ∧ lo ≤ t.ht ∧ t.ht ≤ hi
theorem Lk.kept {w w' : World} {v : Value} {s : List UInt8} {lo hi : Nat} (h : Lk w v s lo hi) (k : Kept w w') : Lk w' v s lo hi := by
  obtain ⟨t, h1, h2⟩ := h
  exact ⟨t, h1.kept k, h2⟩
/-- A balanced tree of that text, or none of no text. -/
def OL (w : World) (v : Value) (s : List UInt8) : Prop := ∃ o : Option Tr, OAt w v o ∧ OOk o ∧ otext o = s
theorem OL.kept {w w' : World} {v : Value} {s : List UInt8} (h : OL w v s) (k : Kept w w') : OL w' v s := by
  obtain ⟨t, h1, h2⟩ := h
  exact ⟨t, h1.kept k, h2⟩
theorem OL.gm {m : Nat} {w w' : World} {v : Value} {s : List UInt8} (h : OL w v s) (hm : Mk m w) (k : Gm m w w') : OL w' v s := by
  obtain ⟨t, h1, h2⟩ := h
  exact ⟨t, h1.gm hm k, h2⟩
theorem OL.nil (w : World) : OL w (.pointer none) [] := ⟨none, rfl, trivial, rfl⟩
theorem OL.of {w : World} {v : Value} {t : Tr} (h : At w v t) (k : t.Ok) : OL w v t.text := ⟨some t, h, k, rfl⟩
end Go.Proofs.Ytdobbindilibjaa.Kit
namespace Go.Proofs.Ytdobbindilibjaa
open Go Go.RowKit Kit
set_option maxHeartbeats 1000000 in
theorem link_A (a b : Value) (x y r : Tr) (w : World) (ha : At w a (.node x y)) (hb : At w b r) (hl : (Tr.node x y).Ok) (hr : (r).Ok) (hn : (Tr.node x y).text.length + (r).text.length ≤ 100000000000000) (h1 : r.ht + 1 < (Tr.node x y).ht)
    (ih : ∀ (a b : Value) (w : World), At w a y → At w b r → Calls Try.prog 35 #[a, b] w fun e w' => ∃ v, e = .returned v ∧ Lk w' v (y.text ++ r.text) (max y.ht r.ht) (max y.ht r.ht + 1) ∧ Kept w w') :
    Calls Try.prog 35 #[a, b] w fun e w' => ∃ v, e = .returned v ∧ Lk w' v ((Tr.node x y).text ++ r.text) (max (Tr.node x y).ht r.ht) (max (Tr.node x y).ht r.ht + 1) ∧ Kept w w' := by
  obtain ⟨ka, ax, ay, rfl, hka, hx, hy⟩ := ha
  obtain ⟨kx, x1, x2, xs, rfl, hkx⟩ := hx.block
  obtain ⟨ky, y1, y2, ys, rfl, hky⟩ := hy.block
  obtain ⟨kb, b1, b2, bs, rfl, hkb⟩ := hb.block
  obtain ⟨ca0, ca1, -, -, -, ca5⟩ := box6 hka
  obtain ⟨-, -, -, -, -, r5⟩ := box6 hkb
  clear hka hkx hky hkb
  have B1 := x.ht_le hl.1
  have B2 := y.ht_le hl.2.1
  have B3 := r.ht_le hr
  simp only [Tr.ht, Tr.text, List.length_append] at hn h1 ⊢
  have g1 : (r.ht : Int) + 1 < (max x.ht y.ht + 1 : Nat) := by omega
  have g3 : r.ht ≤ 1000000000000000 := by omega
  have HX := Lib.hid hx
  have HY := Lib.hid hy
  have HB := Lib.hid hb
  have HN := Lib.hid hn
  have HI := Lib.hid ih
  have HL := Lib.hid hl
  have HR := Lib.hid hr
  have H1 := Lib.hid h1
  have HB1 := Lib.hid B1
  have HB2 := Lib.hid B2
  have HB3 := Lib.hid B3
  clear hx hy hb hn ih hl hr h1 B1 B2 B3
  generalize hAe : max x.ht y.ht + 1 = hA at *
  generalize hRe : r.ht = tr at *
  have HE := Lib.hid (And.intro hAe hRe)
  clear hAe hRe
  unfold ptr at *
  go_enter Try.func35, Try.ntmps35
  go_wp2_with fail
  go_quiet (fail)
  go_wp2_with fail
  refine wp_from (w := w) (by first | exact Kept.refl _ | exact kept_drewN w _ | exact (kept_drewN w _).trans (kept_drewN _ _) | exact ((kept_drewN w _).trans (kept_drewN _ _)).trans (kept_drewN _ _)) ?_
  intro w1 hk1
  refine wp_abs (fun a => a.tmps.size = 60 ∧ a.defers = [] ∧ a.eval (.tmp 0) = .pointer (some ⟨ka, 0, none⟩) ∧ a.eval (.tmp 1) = .pointer (some ⟨kb, 0, none⟩)) ⟨rfl, rfl, rfl, rfl⟩ ?_
  rintro a0 ⟨hsz, hdef, h0, h1⟩
  have hkw1 : Kept w w1.drew := hk1.trans (Kept.drew (Kept.refl _))
  have hkw : ∀ wr, Kept w1.drew wr → Kept w wr := fun wr h => hk1.trans ((Kept.drew (Kept.refl _)).trans h)
  have L : ∀ wr, Kept w1.drew wr → wr.cell? ⟨ka, 0, none⟩ = some (.pointer (some ⟨kx, 0, none⟩)) ∧ wr.cell? ⟨ka, 1, none⟩ = some (.pointer (some ⟨ky, 0, none⟩)) := fun wr h => ⟨(hkw wr h).cell ca0, (hkw wr h).cell ca1⟩
  refine wp_region_plan Kept pre_kept (vat [isv (.pointer (some ⟨ka, 0, none⟩)),
      isv (.pointer (some ⟨ka, 0, none⟩)),
      isv (.pointer (some ⟨ka, 0, none⟩)),
      isv (.pointer (some ⟨kx, 0, none⟩)),
      isv (.pointer (some ⟨ka, 0, none⟩)),
      isv (.pointer (some ⟨ka, 0, none⟩)),
      isv (.pointer (some ⟨ka, 1, none⟩)),
      isv (.pointer (some ⟨ky, 0, none⟩)),
      isv (.pointer (some ⟨kb, 0, none⟩)),
      fun u w' => Lk w' u (y.text ++ r.text) (max y.ht tr) (max y.ht tr + 1),
      fun u w' => Lk w' u (x.text ++ (y.text ++ r.text)) (max hA tr) (max hA tr + 1)])
    (fun u w' => (Lk w' u (x.text ++ (y.text ++ r.text)) (max hA tr) (max hA tr + 1)) ∧ Kept w1.drew w')
    [([(0, none)], none), ([(24, some 0)], none), ([(25, some 1)], none), ([(26, some 2)], none), ([(0, none)], none), ([(28, some 4)], none), ([(29, some 5)], none), ([(30, some 6)], none), ([(1, none)], none), ([(31, some 7), (32, some 8)], none), ([(27, some 3), (33, some 9)], none), ([(34, some 10)], none)]
    (by kernel_rfl) 60 hsz (by kernel_rfl) (by kernel_rfl) (by decide) ?st ?steps ?fin
  case st =>
    refine stays_vat _ _ fun q hq => ?_
    simp only [List.mem_cons, List.not_mem_nil, or_false] at hq
    rcases hq with rfl | rfl | rfl | rfl | rfl | rfl | rfl | rfl | rfl | rfl | rfl
    all_goals first | exact stays_isv _ _ | (intro u x y hg h; exact Lk.kept h hg)
  case fin =>
    rintro a o u w' hL ho ⟨hu, hk⟩
    simp at ho
    subst ho
    rename_i K hK
    refine hK _ _ (wp_ret ?_)
    simp only [Exit.then, Exit.inBlock]
    exact ret_put (fn := Try.f35) (d := 4) rfl (by rw [hL.tsize, hsz]; decide) (hL.defers.trans hdef) ⟨u, rfl, (by first | exact hu | (rw [List.append_assoc]; exact hu)), hkw1.trans hk⟩
  case steps =>
    refine ⟨?_, ?_, ?_, ?_, ?_, ?_, ?_, ?_, ?_, ?_, ?_, ?_⟩
    all_goals
      intro ρ wr hg hn hc hf hgl
      simp only [Need, vat, List.getD_cons_zero, List.getD_cons_succ, isv, and_true, h0, h1] at hn ⊢
    · simp [wantP, execOp, Ups, hn, hc, pre_kept.refl, go_sem]
    · simp [wantP, execOp, Ups, hn, hc, pre_kept.refl, go_sem]
    · simp [wantP, execOp, Ups, hn, hc, pre_kept.refl, go_sem]
    · have hl := L wr hg
      simp [wantP, execOp, Ups, hn, hl, pre_kept.refl, go_sem]
    · simp [wantP, execOp, Ups, hn, hc, pre_kept.refl, go_sem]
    · simp [wantP, execOp, Ups, hn, hc, pre_kept.refl, go_sem]
    · simp [wantP, execOp, Ups, hn, hc, pre_kept.refl, go_sem]
    · have hl := L wr hg
      simp [wantP, execOp, Ups, hn, hl, pre_kept.refl, go_sem]
    · simp [wantP, execOp, Ups, hn, hc, pre_kept.refl, go_sem]
    · obtain ⟨m1, m2⟩ := hn
      simp only [wantP, if_true]
      unfold execOp
      go_simp
      refine (HI.out _ _ wr (HY.out.kept (hkw wr hg)) (HB.out.kept (hkw wr hg))).mono ?_
      rintro e w3 ⟨v3, rfl, h3, hk3⟩
      exact ⟨v3, rfl, h3, hk3⟩
    · obtain ⟨m1, m2⟩ := hn
      obtain ⟨t, m3, m4, m5, m6, m7⟩ := m2
      have M := Lib.hid (And.intro m3 (And.intro m4 (And.intro m5 (And.intro m6 m7))))
      clear m3 m4 m5 m6 m7
      simp only [wantP, if_true]
      unfold execOp
      go_simp
      obtain ⟨m3, m4, m5, m6, m7⟩ := M.out
      obtain ⟨e1, e2⟩ := HE.out
      obtain ⟨ox, oy, d1, d2⟩ := HL.out
      have k1 := H1.out
      have k2 := HB1.out
      have k3 := HN.out
      have k5 : t.text.length = y.text.length + r.text.length := by rw [m5, List.length_append]
      refine (balance_any _ _ x t wr (HX.out.kept (hkw wr hg)) m3 ox m4 (by omega) (by omega) (by omega)).mono ?_
      rintro e w3 ⟨v3, t3, rfl, h3, o3, x3, lo3, hi3, eq3, hk3⟩
      exact ⟨v3, rfl, ⟨t3, h3, o3, by (rw [x3, m5]) <;> simp, by omega, by omega⟩, hk3⟩
    · have HU := Lib.hid hn
      clear hn
      simp only [wantP, if_true]
      unfold execOp
      go_simp
      exact ⟨HU.out, hg⟩
set_option maxHeartbeats 1000000 in
theorem link_B (a b : Value) (x y r : Tr) (w : World) (ha : At w a r) (hb : At w b (.node y x)) (hl : (r).Ok) (hr : (Tr.node y x).Ok) (hn : (r).text.length + (Tr.node y x).text.length ≤ 100000000000000) (h1 : r.ht + 1 < (Tr.node y x).ht)
    (ih : ∀ (a b : Value) (w : World), At w a r → At w b y → Calls Try.prog 35 #[a, b] w fun e w' => ∃ v, e = .returned v ∧ Lk w' v (r.text ++ y.text) (max r.ht y.ht) (max r.ht y.ht + 1) ∧ Kept w w') :
    Calls Try.prog 35 #[a, b] w fun e w' => ∃ v, e = .returned v ∧ Lk w' v (r.text ++ (Tr.node y x).text) (max r.ht (Tr.node y x).ht) (max r.ht (Tr.node y x).ht + 1) ∧ Kept w w' := by
  obtain ⟨kb, by1, bx, rfl, hkb, hy, hx⟩ := hb
  obtain ⟨kx, x1, x2, xs, rfl, hkx⟩ := hx.block
  obtain ⟨ky, y1, y2, ys, rfl, hky⟩ := hy.block
  obtain ⟨ka, aa1, aa2, aas, rfl, hka⟩ := ha.block
  obtain ⟨cb0, cb1, -, -, -, cb5⟩ := box6 hkb
  obtain ⟨-, -, -, -, -, r5⟩ := box6 hka
  clear hka hkx hky hkb
  have B1 := x.ht_le hr.2.1
  have B2 := y.ht_le hr.1
  have B3 := r.ht_le hl
  simp only [Tr.ht, Tr.text, List.length_append] at hn h1 ⊢
  have g1 : (r.ht : Int) + 1 < (max y.ht x.ht + 1 : Nat) := by omega
  have g0 : ¬ ((max y.ht x.ht + 1 : Nat) : Int) + 1 < (r.ht : Int) := by omega
  have g3 : max y.ht x.ht + 1 ≤ 1000000000000000 := by omega
  have g4 : r.ht ≤ 1000000000000000 := by omega
  have HX := Lib.hid hx
  have HY := Lib.hid hy
  have HA := Lib.hid ha
  have HN := Lib.hid hn
  have HI := Lib.hid ih
  have HL := Lib.hid hl
  have HR := Lib.hid hr
  have H1 := Lib.hid h1
  have HB1 := Lib.hid B1
  have HB2 := Lib.hid B2
  have HB3 := Lib.hid B3
  clear hx hy ha hn ih hl hr h1 B1 B2 B3
  generalize hAe : max y.ht x.ht + 1 = hA at *
  generalize hRe : r.ht = tr at *
  have HE := Lib.hid (And.intro hAe hRe)
  clear hAe hRe
  unfold ptr at *
  go_enter Try.func35, Try.ntmps35
  go_wp2_with fail
  go_quiet (fail)
  go_wp2_with fail
  go_quiet (fail)
  go_wp2_with fail
  refine wp_from (w := w) (by first | exact Kept.refl _ | exact kept_drewN w _ | exact (kept_drewN w _).trans (kept_drewN _ _) | exact ((kept_drewN w _).trans (kept_drewN _ _)).trans (kept_drewN _ _)) ?_
  intro w1 hk1
  refine wp_abs (fun a => a.tmps.size = 60 ∧ a.defers = [] ∧ a.eval (.tmp 0) = .pointer (some ⟨ka, 0, none⟩) ∧ a.eval (.tmp 1) = .pointer (some ⟨kb, 0, none⟩)) ⟨rfl, rfl, rfl, rfl⟩ ?_
  rintro a0 ⟨hsz, hdef, h0, h1⟩
  have hkw1 : Kept w w1.drew := hk1.trans (Kept.drew (Kept.refl _))
  have hkw : ∀ wr, Kept w1.drew wr → Kept w wr := fun wr h => hk1.trans ((Kept.drew (Kept.refl _)).trans h)
  have L : ∀ wr, Kept w1.drew wr → wr.cell? ⟨kb, 0, none⟩ = some (.pointer (some ⟨ky, 0, none⟩)) ∧ wr.cell? ⟨kb, 1, none⟩ = some (.pointer (some ⟨kx, 0, none⟩)) := fun wr h => ⟨(hkw wr h).cell cb0, (hkw wr h).cell cb1⟩
  refine wp_region_plan Kept pre_kept (vat [isv (.pointer (some ⟨ka, 0, none⟩)),
      isv (.pointer (some ⟨kb, 0, none⟩)),
      isv (.pointer (some ⟨kb, 0, none⟩)),
      isv (.pointer (some ⟨kb, 0, none⟩)),
      isv (.pointer (some ⟨ky, 0, none⟩)),
      fun u w' => Lk w' u (r.text ++ y.text) (max tr y.ht) (max tr y.ht + 1),
      isv (.pointer (some ⟨kb, 0, none⟩)),
      isv (.pointer (some ⟨kb, 0, none⟩)),
      isv (.pointer (some ⟨kb, 1, none⟩)),
      isv (.pointer (some ⟨kx, 0, none⟩)),
      fun u w' => Lk w' u (r.text ++ (y.text ++ x.text)) (max tr hA) (max tr hA + 1)])
    (fun u w' => (Lk w' u (r.text ++ (y.text ++ x.text)) (max tr hA) (max tr hA + 1)) ∧ Kept w1.drew w')
    [([(0, none)], none), ([(1, none)], none), ([(47, some 1)], none), ([(48, some 2)], none), ([(49, some 3)], none), ([(46, some 0), (50, some 4)], none), ([(1, none)], none), ([(52, some 6)], none), ([(53, some 7)], none), ([(54, some 8)], none), ([(51, some 5), (55, some 9)], none), ([(56, some 10)], none)]
    (by kernel_rfl) 60 hsz (by kernel_rfl) (by kernel_rfl) (by decide) ?st ?steps ?fin
  case st =>
    refine stays_vat _ _ fun q hq => ?_
    simp only [List.mem_cons, List.not_mem_nil, or_false] at hq
    rcases hq with rfl | rfl | rfl | rfl | rfl | rfl | rfl | rfl | rfl | rfl | rfl
    all_goals first | exact stays_isv _ _ | (intro u x y hg h; exact Lk.kept h hg)
  case fin =>
    rintro a o u w' hL ho ⟨hu, hk⟩
    simp at ho
    subst ho
    rename_i K hK
    refine hK _ _ (wp_ret ?_)
    simp only [Exit.then, Exit.inBlock]
    exact ret_put (fn := Try.f35) (d := 4) rfl (by rw [hL.tsize, hsz]; decide) (hL.defers.trans hdef) ⟨u, rfl, (by first | exact hu | (rw [List.append_assoc]; exact hu)), hkw1.trans hk⟩
  case steps =>
    refine ⟨?_, ?_, ?_, ?_, ?_, ?_, ?_, ?_, ?_, ?_, ?_, ?_⟩
    all_goals
      intro ρ wr hg hn hc hf hgl
      simp only [Need, vat, List.getD_cons_zero, List.getD_cons_succ, isv, and_true, h0, h1] at hn ⊢
    · simp [wantP, execOp, Ups, hn, hc, pre_kept.refl, go_sem]
    · simp [wantP, execOp, Ups, hn, hc, pre_kept.refl, go_sem]
    · simp [wantP, execOp, Ups, hn, hc, pre_kept.refl, go_sem]
    · simp [wantP, execOp, Ups, hn, hc, pre_kept.refl, go_sem]
    · have hl := L wr hg
      simp [wantP, execOp, Ups, hn, hl, pre_kept.refl, go_sem]
    · obtain ⟨m1, m2⟩ := hn
      simp only [wantP, if_true]
      unfold execOp
      go_simp
      refine (HI.out _ _ wr (HA.out.kept (hkw wr hg)) (HY.out.kept (hkw wr hg))).mono ?_
      rintro e w3 ⟨v3, rfl, h3, hk3⟩
      exact ⟨v3, rfl, h3, hk3⟩
    · simp [wantP, execOp, Ups, hn, hc, pre_kept.refl, go_sem]
    · simp [wantP, execOp, Ups, hn, hc, pre_kept.refl, go_sem]
    · simp [wantP, execOp, Ups, hn, hc, pre_kept.refl, go_sem]
    · have hl := L wr hg
      simp [wantP, execOp, Ups, hn, hl, pre_kept.refl, go_sem]
    · obtain ⟨m2, m1⟩ := hn
      obtain ⟨t, m3, m4, m5, m6, m7⟩ := m2
      have M := Lib.hid (And.intro m3 (And.intro m4 (And.intro m5 (And.intro m6 m7))))
      clear m3 m4 m5 m6 m7
      simp only [wantP, if_true]
      unfold execOp
      go_simp
      obtain ⟨m3, m4, m5, m6, m7⟩ := M.out
      obtain ⟨e1, e2⟩ := HE.out
      obtain ⟨oy, ox, d1, d2⟩ := HR.out
      have k1 := H1.out
      have k2 := HB1.out
      have k3 := HN.out
      have k5 : t.text.length = r.text.length + y.text.length := by rw [m5, List.length_append]
      refine (balance_any _ _ t x wr m3 (HX.out.kept (hkw wr hg)) m4 ox (by omega) (by omega) (by omega)).mono ?_
      rintro e w3 ⟨v3, t3, rfl, h3, o3, x3, lo3, hi3, eq3, hk3⟩
      exact ⟨v3, rfl, ⟨t3, h3, o3, by (rw [x3, m5]) <;> simp, by omega, by omega⟩, hk3⟩
    · have HU := Lib.hid hn
      clear hn
      simp only [wantP, if_true]
      unfold execOp
      go_simp
      exact ⟨HU.out, hg⟩
set_option maxHeartbeats 1000000 in
theorem link_C (a b : Value) (l r : Tr) (w : World) (ha : At w a l) (hb : At w b r) (hl : l.Ok) (hr : r.Ok) (hn : l.text.length + r.text.length ≤ 100000000000000) (h1 : l.ht ≤ r.ht + 1) (h2 : r.ht ≤ l.ht + 1) :
    Calls Try.prog 35 #[a, b] w fun e w' => ∃ v, e = .returned v ∧ Lk w' v (l.text ++ r.text) (max l.ht r.ht) (max l.ht r.ht + 1) ∧ Kept w w' := by
  have B1 := l.ht_le hl
  have B2 := r.ht_le hr
  obtain ⟨ka, aa1, aa2, aas, rfl, hka⟩ := ha.block
  obtain ⟨kb, b1, b2, bs, rfl, hkb⟩ := hb.block
  obtain ⟨-, -, -, -, -, a5⟩ := box6 hka
  obtain ⟨-, -, -, -, -, b5⟩ := box6 hkb
  clear hka hkb
  have g0 : ¬ (r.ht : Int) + 1 < l.ht := by omega
  have g1 : ¬ (l.ht : Int) + 1 < r.ht := by omega
  have HN := Lib.hid (And.intro ha (And.intro hb (And.intro hl (And.intro hr (And.intro hn (And.intro h1 (And.intro h2 (And.intro B1 B2))))))))
  have b1 : l.ht ≤ 1000000000000000 := by omega
  have b2 : r.ht ≤ 1000000000000000 := by omega
  clear ha hb hl hr hn h1 h2 B1 B2
  generalize e1 : l.ht = tl at *
  generalize e2 : r.ht = tr at *
  unfold ptr at *
  go_enter Try.func35, Try.ntmps35
  go_wp2_with fail
  go_quiet (fail)
  go_wp2_with fail
  go_quiet (fail)
  go_wp2_with fail
  obtain ⟨ha, hb, hl, hr, hn, h1, h2, B1, B2⟩ := HN.out
  refine (pair_any _ _ l r _ (ha.kept (kept_drewN w _)) (hb.kept (kept_drewN w _)) (by omega) (by omega) hn).mono ?_
  rintro e w3 ⟨v3, rfl, h3, hk3⟩
  have HV := Lib.hid (And.intro h3 ((kept_drewN w _).trans hk3))
  clear h3 hk3 ha hb hl hr hn h1 h2 B1 B2
  obtain ⟨j3, c1, c2, c3, rfl, -⟩ := HV.out.1.block
  unfold ptr at *
  go_wp2_with fail
  go_ret
  obtain ⟨ha, hb, hl, hr, hn, h1, h2, B1, B2⟩ := HN.out
  refine ⟨_, rfl, ⟨_, HV.out.1, ⟨hl, hr, by omega, by omega⟩, rfl, ?_, ?_⟩, HV.out.2⟩ <;> simp only [Tr.ht] <;> omega

theorem link_t (k : Nat) : ∀ (l r : Tr), l.ht + r.ht ≤ k → l.Ok → r.Ok → l.text.length + r.text.length ≤ 100000000000000 → ∀ (a b : Value) (w : World), At w a l → At w b r →
    Calls Try.prog 35 #[a, b] w fun e w' => ∃ v, e = .returned v ∧ Lk w' v (l.text ++ r.text) (max l.ht r.ht) (max l.ht r.ht + 1) ∧ Kept w w' := by
  induction k with
  | zero => intro l r h; have := l.ht_pos; omega
  | succ k ih =>
    intro l r hk hl hr hn a b w ha hb
    by_cases c1 : r.ht + 1 < l.ht
    · match l, ha, hl, hk, hn, c1 with
      | .leaf _, _, _, _, _, c1 => simp only [Tr.ht] at c1; omega
      | .node x y, ha, hl, hk, hn, c1 =>
        refine link_A a b x y r w ha hb hl hr hn c1 (ih y r ?_ hl.2.1 hr ?_)
        · simp only [Tr.ht] at hk; omega
        · simp only [Tr.text, List.length_append] at hn; omega
    · by_cases c2 : l.ht + 1 < r.ht
      · match r, hb, hr, hk, hn, c1, c2 with
        | .leaf _, _, _, _, _, _, c2 => simp only [Tr.ht] at c2; omega
        | .node y x, hb, hr, hk, hn, c1, c2 =>
          refine link_B a b x y l w ha hb hl hr hn c2 (ih l y ?_ hl hr.1 ?_)
          · simp only [Tr.ht] at hk; omega
          · simp only [Tr.text, List.length_append] at hn; omega
      · exact link_C a b l r w ha hb hl hr hn (by omega) (by omega)

theorem link_any (a b : Value) (s t : List UInt8) (w : World) (ha : OL w a s) (hb : OL w b t) (hn : s.length + t.length ≤ 100000000000000) :
    Calls Try.prog 35 #[a, b] w fun e w' => ∃ v, e = .returned v ∧ OL w' v (s ++ t) ∧ Kept w w' := by
  obtain ⟨o1, h1, h2, rfl⟩ := ha
  obtain ⟨o2, h3, h4, rfl⟩ := hb
  cases o1 with
  | none =>
    cases h1
    have H := Lib.hid (And.intro h3 h4)
    clear h3 h4 h2 hn
    have hp : ∃ p, b = .pointer p := by
      cases o2 with
      | none => exact ⟨none, H.out.1⟩
      | some r => obtain ⟨j, _, _, _, e, _⟩ := At.block H.out.1; exact ⟨_, e⟩
    obtain ⟨p, rfl⟩ := hp
    go_enter Try.func35, Try.ntmps35
    go_wp2_with fail
    go_ret
    exact ⟨_, rfl, ⟨o2, H.out.1, H.out.2, rfl⟩, Kept.refl _⟩
  | some l =>
    cases o2 with
    | none =>
      cases h3
      obtain ⟨j, c1, c2, c3, rfl, -⟩ := At.block h1
      have H := Lib.hid (And.intro h1 h2)
      clear h1 h2 h4 hn
      unfold ptr at *
      go_enter Try.func35, Try.ntmps35
      go_wp2_with fail
      go_ret
      exact ⟨_, rfl, ⟨some l, H.out.1, H.out.2, by simp [otext]⟩, Kept.refl _⟩
    | some r =>
      refine (link_t _ l r (Nat.le_refl _) h2 h4 hn a b w h1 h3).mono ?_
      rintro e w' ⟨v, rfl, ⟨t, k1, k2, k3, _⟩, hk⟩
      exact ⟨v, rfl, ⟨some t, k1, k2, k3⟩, hk⟩
end Go.Proofs.Ytdobbindilibjaa
