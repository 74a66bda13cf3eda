/-
  What the small functions of package rope's nodes do, on values and memory.
-/
import Derived.Test.YtdobbindilibjaaTree
set_option linter.unusedSimpArgs false
namespace Go.Proofs.Ytdobbindilibjaa
open Go Go.RowKit Kit
theorem count_any (s : List UInt8) (w : World) : Calls Try.prog 41 #[.string ⟨s.toArray⟩, .string ⟨#[10]⟩] w fun e w' => e = .returned (.int .i64 (nl s)) ∧ w' = w := by
  go_enter Try.func41, Try.ntmps41
  go_wp2
  rw [run_callFunc_extern Try.func46 (by kernel_rfl) (by kernel_rfl) (by kernel_rfl) (e := Extern.BytealgCount.count) (by kernel_rfl), Lib.run_countString]
  simp only [Result.andThen]
  rw [Oper.upon_value]
  go_wp2
  go_ret
  exact ⟨rfl, rfl⟩

theorem add_any (m : Nat) (c : Int) (w : World) (hm : w.heap[m]? = some (.cells #[.int .i64 c] 50 (0, 0))) :
    Calls Try.prog 40 #[.pointer (some ⟨m, 0, none⟩), .int .i64 1] w fun e w' => (∃ u, e = .returned u) ∧ ∃ x, w' = w.setCell ⟨m, 0, none⟩ (.int .i64 x) := by
  have hc : w.cell? ⟨m, 0, none⟩ = some (.int .i64 c) := by rw [blk_cell hm]; rfl
  have hz : w.frozen? ⟨m, 0, none⟩ = false := blk_free hm 0
  go_enter Try.func40, Try.ntmps40
  go_wp2
  rw [run_callFunc_extern Try.func44 (by kernel_rfl) (by kernel_rfl) (by kernel_rfl) (e := Extern.Atomic.update (Op.intArith .add) .i64 true) (by kernel_rfl), Conc.run_add_entry hc hz]
  simp only [Result.andThen]
  rw [Oper.upon_value]
  go_wp2
  go_ret
  exact ⟨⟨_, rfl⟩, _, rfl⟩

theorem Kit.Mk.set {m : Nat} {w : World} (h : Mk m w) (x : Int) : Gm m w (w.setCell ⟨m, 0, none⟩ (.int .i64 x)) := by
  obtain ⟨c, hc⟩ := h
  refine ⟨⟨rfl, rfl, rfl, by simp [World.setCell], fun k hk hne => ?_⟩, fun _ => ⟨x, by simp [World.setCell, Array.getElem?_modify, hc]⟩⟩
  have : ¬ m = k := fun e => hne (by rw [e])
  simp [World.setCell, Array.getElem?_modify, this]

theorem leaf_any (m : Nat) (s : List UInt8) (w : World) (hm : Mk m w) :
    Calls Try.prog 31 #[ptr m, .string ⟨s.toArray⟩] w fun e w' => ∃ v, e = .returned v ∧ At w' v (.leaf s) ∧ Gm m w w' := by
  obtain ⟨c, hc⟩ := hm
  unfold ptr
  go_enter Try.func31, Try.ntmps31
  go_wp2_with fail
  refine (add_any m c w hc).mono ?_
  rintro e w1 ⟨⟨u, rfl⟩, x, rfl⟩
  go_wp2_with fail
  refine (count_any s _).mono ?_
  rintro e w2 ⟨rfl, rfl⟩
  go_wp2_with fail
  go_ret
  have hg := Mk.set ⟨c, hc⟩ x
  have hsz : (w.setCell ⟨m, 0, none⟩ (.int .i64 x)).heap.size = w.heap.size := by simp [World.setCell]
  refine ⟨_, rfl, ⟨w.heap.size, rfl, ?_⟩, hg.trans (((Kept.refl _).alloc _).gm m)⟩
  rw [← hsz]
  exact blk_new _ _

theorem pre_kept : Pre Kept := ⟨Kept.refl, Kept.trans⟩
theorem tmax (a b : Nat) : (max (a : Int) b) = ((max a b : Nat) : Int) := by omega
theorem pair_any (a b : Value) (l r : Tr) (w : World) (ha : At w a l) (hb : At w b r) (h3 : l.ht ≤ 1000000000000000) (h4 : r.ht ≤ 1000000000000000) (hn : l.text.length + r.text.length ≤ 100000000000000) :
    Calls Try.prog 32 #[a, b] w fun e w' => ∃ v, e = .returned v ∧ At w' v (.node l r) ∧ Kept w w' := by
  obtain ⟨k, a1, a2, s1, rfl, hk⟩ := ha.block
  obtain ⟨j, b1, b2, s2, rfl, hj⟩ := hb.block
  obtain ⟨p0, p1, p2, p3, p4, p5⟩ := box6 hk
  obtain ⟨q0, q1, q2, q3, q4, q5⟩ := box6 hj
  have h1 := nl_le l.text
  have h2 := nl_le r.text
  clear p0 p1 p2 q0 q1 q2 hk hj
  have HA := Lib.hid ha
  have HB := Lib.hid hb
  clear ha hb
  unfold ptr at *
  generalize e1 : l.text.length = n1 at *
  generalize e2 : r.text.length = n2 at *
  generalize e3 : nl l.text = f1 at *
  generalize e4 : nl r.text = f2 at *
  generalize e5 : l.ht = t1 at *
  generalize e6 : r.ht = t2 at *
  go_enter Try.func32, Try.ntmps32
  go_wp2
  refine wp_abs (fun a => a.tmps.size = 37 ∧ a.defers = [] ∧ a.eval (.tmp 0) = .pointer (some ⟨k, 0, none⟩) ∧ a.eval (.tmp 1) = .pointer (some ⟨j, 0, none⟩)) ⟨rfl, rfl, rfl, rfl⟩ ?_
  rintro a0 ⟨hsz, hdef, h0, h1⟩
  refine wp_region_plan Kept pre_kept (vat [isv (.pointer (some ⟨k, 0, none⟩)),
      isv (.pointer (some ⟨j, 0, none⟩)),
      isv (.pointer (some ⟨k, 0, none⟩)),
      isv (.pointer (some ⟨k, 0, none⟩)),
      isv (.pointer (some ⟨k, 3, none⟩)),
      isv (.int .i64 n1),
      isv (.pointer (some ⟨j, 0, none⟩)),
      isv (.pointer (some ⟨j, 0, none⟩)),
      isv (.pointer (some ⟨j, 3, none⟩)),
      isv (.int .i64 n2),
      isv (.int .i64 ((n1 : Int) + n2)),
      isv (.pointer (some ⟨k, 0, none⟩)),
      isv (.pointer (some ⟨k, 0, none⟩)),
      isv (.pointer (some ⟨k, 4, none⟩)),
      isv (.int .i64 f1),
      isv (.pointer (some ⟨j, 0, none⟩)),
      isv (.pointer (some ⟨j, 0, none⟩)),
      isv (.pointer (some ⟨j, 4, none⟩)),
      isv (.int .i64 f2),
      isv (.int .i64 ((f1 : Int) + f2)),
      isv (.pointer (some ⟨k, 0, none⟩)),
      isv (.pointer (some ⟨k, 0, none⟩)),
      isv (.pointer (some ⟨k, 5, none⟩)),
      isv (.int .i64 t1),
      isv (.pointer (some ⟨j, 0, none⟩)),
      isv (.pointer (some ⟨j, 0, none⟩)),
      isv (.pointer (some ⟨j, 5, none⟩)),
      isv (.int .i64 t2),
      isv (.int .i64 ((max t1 t2 : Nat) : Int)),
      isv (.int .i64 ((max t1 t2 : Nat) + 1 : Int)),
      isv (.agg #[.pointer (some ⟨k, 0, none⟩), .pointer (some ⟨j, 0, none⟩), .string ⟨#[]⟩, .int .i64 ((n1 : Int) + n2), .int .i64 ((f1 : Int) + f2), .int .i64 ((max t1 t2 : Nat) + 1 : Int)]),
      fun u w' => ∃ g, u = .pointer (some ⟨g, 0, none⟩) ∧ w'.heap[g]? = some (nd (.pointer (some ⟨k, 0, none⟩)) (.pointer (some ⟨j, 0, none⟩)) [] (n1 + n2) (f1 + f2) (max t1 t2 + 1))])
    (fun u w' => (∃ g, u = .pointer (some ⟨g, 0, none⟩) ∧ w'.heap[g]? = some (nd (.pointer (some ⟨k, 0, none⟩)) (.pointer (some ⟨j, 0, none⟩)) [] (n1 + n2) (f1 + f2) (max t1 t2 + 1))) ∧ Kept w.drew w')
    [([(0, none)], none), ([(1, none)], none), ([(0, none)], none), ([(7, some 2)], none), ([(8, some 3)], none), ([(9, some 4)], none), ([(1, none)], none), ([(11, some 6)], none), ([(12, some 7)], none), ([(13, some 8)], none), ([(10, some 5), (14, some 9)], none), ([(0, none)], none), ([(16, some 11)], none), ([(17, some 12)], none), ([(18, some 13)], none), ([(1, none)], none), ([(20, some 15)], none), ([(21, some 16)], none), ([(22, some 17)], none), ([(19, some 14), (23, some 18)], none), ([(0, none)], none), ([(25, some 20)], none), ([(26, some 21)], none), ([(27, some 22)], none), ([(1, none)], none), ([(29, some 24)], none), ([(30, some 25)], none), ([(31, some 26)], none), ([(28, some 23), (32, some 27)], none), ([(33, some 28)], none), ([(5, some 0), (6, some 1), (15, some 10), (24, some 19), (34, some 29)], none), ([(35, some 30)], none), ([(36, some 31)], none)]
    (by kernel_rfl) 37 hsz (by kernel_rfl) (by kernel_rfl) (by decide) ?st ?steps ?fin
  case st =>
    refine stays_vat _ _ fun q hq => ?_
    simp only [List.mem_cons, List.not_mem_nil, or_false] at hq
    rcases hq with rfl | rfl | rfl | rfl | rfl | rfl | rfl | rfl | rfl | rfl | rfl | rfl | rfl | rfl | rfl | rfl | rfl | rfl | rfl | rfl | rfl | rfl | rfl | rfl | rfl | rfl | rfl | rfl | rfl | rfl | rfl | rfl
    all_goals first | exact stays_isv _ _ | (rintro u x y hg ⟨g, rfl, h⟩; exact ⟨g, rfl, hg.blk h⟩)
  case fin =>
    rintro a o u w' hL ho ⟨⟨g, rfl, hb⟩, hk⟩
    simp at ho
    subst ho
    rename_i K hK
    have hkw : Kept w w' := (Kept.drew (Kept.refl _)).trans hk
    refine hK _ _ (ret_slot (d := 4) rfl (by rw [hL.tsize, hsz]; decide) (hL.defers.trans hdef) ⟨_, rfl, ⟨g, _, _, rfl, ?_, HA.out.kept hkw, HB.out.kept hkw⟩, hkw⟩)
    rw [hb, e1, e2, e3, e4, e5, e6]
  case steps =>
    have L : ∀ wr, Kept w.drew wr → wr.cell? ⟨k, 3, none⟩ = some (.int .i64 n1) ∧ wr.cell? ⟨k, 4, none⟩ = some (.int .i64 f1) ∧ wr.cell? ⟨k, 5, none⟩ = some (.int .i64 t1) ∧ wr.cell? ⟨j, 3, none⟩ = some (.int .i64 n2) ∧ wr.cell? ⟨j, 4, none⟩ = some (.int .i64 f2) ∧ wr.cell? ⟨j, 5, none⟩ = some (.int .i64 t2) := fun wr h => ⟨h.cell p3, h.cell p4, h.cell p5, h.cell q3, h.cell q4, h.cell q5⟩
    refine ⟨?_, ?_, ?_, ?_, ?_, ?_, ?_, ?_, ?_, ?_, ?_, ?_, ?_, ?_, ?_, ?_, ?_, ?_, ?_, ?_, ?_, ?_, ?_, ?_, ?_, ?_, ?_, ?_, ?_, ?_, ?_, ?_, ?_⟩
    all_goals
      intro ρ wr hg hn hc hf hgl
      simp only [Need, vat, List.getD_cons_zero, List.getD_cons_succ, isv, and_true, h0, h1] at hn ⊢
    · simp [wantP, execOp, Ups, hn, hc, pre_kept.refl, go_sem]
    · simp [wantP, execOp, Ups, hn, hc, pre_kept.refl, go_sem]
    · simp [wantP, execOp, Ups, hn, hc, pre_kept.refl, go_sem]
    · simp [wantP, execOp, Ups, hn, hc, pre_kept.refl, go_sem]
    · simp [wantP, execOp, Ups, hn, hc, pre_kept.refl, go_sem]
    · have hl := L wr hg
      simp [wantP, execOp, Ups, hn, hl, pre_kept.refl, go_sem]
    · simp [wantP, execOp, Ups, hn, hc, pre_kept.refl, go_sem]
    · simp [wantP, execOp, Ups, hn, hc, pre_kept.refl, go_sem]
    · simp [wantP, execOp, Ups, hn, hc, pre_kept.refl, go_sem]
    · have hl := L wr hg
      simp [wantP, execOp, Ups, hn, hl, pre_kept.refl, go_sem]
    · obtain ⟨n3, n4⟩ := hn
      simp only [wantP, if_true]
      unfold execOp
      go_simp
      exact ⟨by rw [IntWalk.i64_in _ (by omega)], pre_kept.refl _⟩
    · simp [wantP, execOp, Ups, hn, hc, pre_kept.refl, go_sem]
    · simp [wantP, execOp, Ups, hn, hc, pre_kept.refl, go_sem]
    · simp [wantP, execOp, Ups, hn, hc, pre_kept.refl, go_sem]
    · have hl := L wr hg
      simp [wantP, execOp, Ups, hn, hl, pre_kept.refl, go_sem]
    · simp [wantP, execOp, Ups, hn, hc, pre_kept.refl, go_sem]
    · simp [wantP, execOp, Ups, hn, hc, pre_kept.refl, go_sem]
    · simp [wantP, execOp, Ups, hn, hc, pre_kept.refl, go_sem]
    · have hl := L wr hg
      simp [wantP, execOp, Ups, hn, hl, pre_kept.refl, go_sem]
    · obtain ⟨n3, n4⟩ := hn
      simp only [wantP, if_true]
      unfold execOp
      go_simp
      exact ⟨by rw [IntWalk.i64_in _ (by omega)], pre_kept.refl _⟩
    · simp [wantP, execOp, Ups, hn, hc, pre_kept.refl, go_sem]
    · simp [wantP, execOp, Ups, hn, hc, pre_kept.refl, go_sem]
    · simp [wantP, execOp, Ups, hn, hc, pre_kept.refl, go_sem]
    · have hl := L wr hg
      simp [wantP, execOp, Ups, hn, hl, pre_kept.refl, go_sem]
    · simp [wantP, execOp, Ups, hn, hc, pre_kept.refl, go_sem]
    · simp [wantP, execOp, Ups, hn, hc, pre_kept.refl, go_sem]
    · simp [wantP, execOp, Ups, hn, hc, pre_kept.refl, go_sem]
    · have hl := L wr hg
      simp [wantP, execOp, Ups, hn, hl, pre_kept.refl, go_sem]
    · obtain ⟨n3, n4⟩ := hn
      simp only [wantP, if_true]
      unfold execOp
      go_simp
      refine ⟨?_, pre_kept.refl _⟩
      first | (congr 1; omega) | (split <;> (congr 1; omega)) | (simp; omega)
    · simp only [wantP, if_true]
      unfold execOp
      go_simp
      exact ⟨by rw [IntWalk.i64_in _ (by omega)], pre_kept.refl _⟩
    · obtain ⟨n3, n4, n5, n6, n7⟩ := hn
      simp only [wantP, if_true]
      unfold execOp
      go_simp
      exact ⟨rfl, pre_kept.refl _⟩
    · simp only [wantP, if_true]
      unfold execOp
      go_simp
      refine ⟨⟨wr.heap.size, rfl, ?_⟩, (Kept.refl _).alloc _⟩
      rw [blk_new]
      simp [nd]
    · obtain ⟨g, hu, hb⟩ := hn
      have HB3 := Lib.hid hb
      clear hb
      simp only [wantP, if_true]
      unfold execOp
      go_simp
      exact ⟨⟨g, rfl, HB3.out⟩, hg⟩
end Go.Proofs.Ytdobbindilibjaa
