/-
  What rope.grow does, on values and memory.
-/
import Derived.Test.YtdobbindilibjaaMake
set_option linter.unusedSimpArgs false
namespace Go.Proofs.Ytdobbindilibjaa.Kit
open Go Go.RowKit
/-- How high the tree of n bytes is. -/
def gh (n : Nat) : Nat := if h : n ≤ 64 then 1 else max (gh (n / 2)) (gh (n - n / 2)) + 1
decreasing_by all_goals omega
theorem gh_small {n : Nat} (h : n ≤ 64) : gh n = 1 := by unfold gh; rw [dif_pos h]
theorem gh_big {n : Nat} (h : ¬ n ≤ 64) : gh n = max (gh (n / 2)) (gh (n - n / 2)) + 1 := by conv => lhs; unfold gh; rw [dif_neg h]
theorem gh_succ (n : Nat) : gh n ≤ gh (n + 1) ∧ gh (n + 1) ≤ gh n + 1 := by
  induction n using Nat.strongRecOn with
  | _ n ih =>
    by_cases h : n ≤ 63
    · rw [gh_small (by omega : n ≤ 64), gh_small (by omega : n + 1 ≤ 64)]; omega
    · by_cases h2 : n = 64
      · subst h2
        rw [gh_small (n := 64) (by omega), gh_big (n := 64 + 1) (by omega), gh_small (n := (64 + 1) / 2) (by omega), gh_small (n := 64 + 1 - (64 + 1) / 2) (by omega)]
        omega
      · rw [gh_big (n := n) (by omega), gh_big (n := n + 1) (by omega)]
        have i1 := ih (n / 2) (by omega)
        rcases Nat.mod_two_eq_zero_or_one n with hm | hm
        · have e1 : n - n / 2 = n / 2 := by omega
          have e2 : (n + 1) / 2 = n / 2 := by omega
          have e3 : n + 1 - (n + 1) / 2 = n / 2 + 1 := by omega
          rw [e1, e3, e2]
          omega
        · have e1 : n - n / 2 = n / 2 + 1 := by omega
          have e2 : (n + 1) / 2 = n / 2 + 1 := by omega
          have e3 : n + 1 - (n + 1) / 2 = n / 2 + 1 := by omega
          rw [e1, e3, e2]
          omega
theorem gh_half (n : Nat) : gh (n / 2) ≤ gh (n - n / 2) + 1 ∧ gh (n - n / 2) ≤ gh (n / 2) + 1 := by
  have i1 := gh_succ (n / 2)
  rcases Nat.mod_two_eq_zero_or_one n with hm | hm
  · have e1 : n - n / 2 = n / 2 := by omega
    rw [e1]; omega
  · have e1 : n - n / 2 = n / 2 + 1 := by omega
    rw [e1]; omega
theorem Lk.gm {m : Nat} {w w' : World} {v : Value} {s : List UInt8} {lo hi : Nat} (h : Lk w v s lo hi) (hm : Mk m w) (k : Gm m w w') : Lk w' v s lo hi := by
  obtain ⟨t, h1, h2⟩ := h
  exact ⟨t, h1.gm hm k, h2⟩
theorem stab_lkm (m : Nat) (s : List UInt8) (lo hi : Nat) : ∀ (u : Value) (w w' : World), Gm m w w' → (Lk w u s lo hi ∧ Mk m w) → (Lk w' u s lo hi ∧ Mk m w') := fun _ _ _ h ⟨k, hm⟩ => ⟨k.gm hm h, h.mk hm⟩
theorem Gm.fresh {w w1 : World} {o : Obj} (h : Gm w.heap.size (w.alloc o) w1) : Kept w w1 := by
  refine ⟨h.1.os, h.1.tape, h.1.output, ?_, fun k hk => ?_⟩
  · have := h.1.size
    rw [World.size_alloc] at this
    omega
  · refine (h.1.block k ?_ ?_).trans (Below.heap_alloc w o k hk)
    · rw [World.size_alloc]; omega
    · intro e
      injection e with e
      omega
end Go.Proofs.Ytdobbindilibjaa.Kit
namespace Go.Proofs.Ytdobbindilibjaa
open Go Go.RowKit Kit
set_option maxHeartbeats 4000000 in
theorem grow_t (m : Nat) (N : Nat) : ∀ (l : List UInt8), l.length ≤ N → l ≠ [] → l.length ≤ 90000000000000 → ∀ (v : Value) (w : World), Mk m w → Bs w v l → Calls Try.prog 19 #[ptr m, v] w (Ret (Gm m) (fun u w' => Lk w' u l (gh l.length) (gh l.length) ∧ Mk m w') w) := by
  induction N with
  | zero => intro l h1 h2; exact absurd (List.eq_nil_of_length_eq_zero (by omega)) h2
  | succ N ih =>
    intro l hN hne hl v w hm hb
    have HB := Lib.hid hb
    obtain ⟨A, c, rfl, hc1, hc2, -⟩ := id hb
    have HM := Lib.hid hm
    have HI := Lib.hid ih
    have HNN := Lib.hid (And.intro hN hl)
    have hpos : 0 < l.length := List.length_pos_iff.2 hne
    have hs := HB.out.str (P := Try.prog) 22 9 5 (by kernel_rfl) (by kernel_rfl) (by kernel_rfl)
    unfold maxLen at hc2
    clear hm ih hb hne
    have hg1 := gh_half l.length
    have HG := Lib.hid hg1
    clear hg1
    unfold ptr
    by_cases h64 : l.length ≤ 64
    · have e64 := gh_small h64
      have HE := Lib.hid e64
      have x1 : (l.length : Int) ≤ 64 := by omega
      have x2 : ¬ (l.length : Int) = 0 := by omega
      clear e64
      go_enter Try.func19, Try.ntmps19
      go_wp2_with fail
      refine (leaf_m m _ w HM.out).mono ?_
      rintro e w4 ⟨u4, rfl, h4, hk4⟩
      have H4 := Lib.hid (And.intro h4 hk4)
      clear h4 hk4
      obtain ⟨k4, rfl, -⟩ := id H4.out.1.1
      unfold ptr
      go_wp2_with fail
      go_ret
      exact ⟨_, rfl, ⟨⟨_, H4.out.1.1, ⟨hpos, h64⟩, rfl, by rw [HE.out]; exact Nat.le_refl 1, by rw [HE.out]; exact Nat.le_refl 1⟩, H4.out.1.2⟩, H4.out.2⟩
    · have x1 : ¬ (l.length : Int) ≤ 64 := by omega
      have x2 : ¬ (l.length : Int) = 0 := by omega
      have HH := Lib.hid h64
      go_enter Try.func19, Try.ntmps19
      go_wp2_with fail
      rw [show ((l.length : Int) / 2) = ((l.length / 2 : Nat) : Int) from by omega]
      have hcut1 := HB.out.cut (lo := 0) (hi := l.length / 2) (m := c) (by omega) (by omega) (by omega) (by omega)
      have hcut2 := HB.out.cut (lo := l.length / 2) (hi := l.length) (m := c) (by omega) (by omega) (by omega) (by omega)
      simp only [Nat.sub_zero, List.drop_zero, Addr.add_zero', Option.map_id', ite_self] at hcut1
      rw [List.take_of_length_le (Nat.le_refl _)] at hcut2
      have HC1 := Lib.hid hcut1
      have HC2 := Lib.hid hcut2
      have y1 : l.length / 2 ≤ l.length := by omega
      have y2 : 1 ≤ l.length / 2 := by omega
      have y3 : l.length / 2 < l.length := by omega
      have HY := Lib.hid (And.intro y1 (And.intro y2 y3))
      clear hcut1 hcut2 x1 x2 h64 hs
      generalize hhe : l.length / 2 = h at *
      have HHE := Lib.hid hhe
      clear hhe
      have q1 : (h : Int) ≤ c := by omega
      have q2 : (0 : Int) ≤ h := by omega
      have q3 : (h : Int) ≤ l.length := by omega
      refine wp_region_go (Gm m) (pre_gm m) [([(0, none)], none), ([(1, none)], none), ([(5, none)], none), ([(22, some 1), (23, some 2)], none), ([(21, some 0), (24, some 3)], none), ([(0, none)], none), ([(1, none)], none), ([(5, none)], none), ([(27, some 6), (28, some 7)], none), ([(26, some 5), (29, some 8)], none), ([(25, some 4), (30, some 9)], none), ([(31, some 10)], none)] (by kernel_rfl) 32 rfl (by kernel_rfl) (by kernel_rfl) ?_
      apply go_val (pre_gm m)
      · rintro ρ wr ⟨hg, hn, hc, hf, hgl⟩
        simp only [Need, fat, List.nil_append, List.cons_append, List.getD_cons_zero, List.getD_cons_succ, Fct.hold, and_true] at hn
        refine ⟨by simp [wantP, hn], ?_⟩
        simp [execOp, hn, hc, go_sem]
        exact rfl
      apply go_val (pre_gm m)
      · rintro ρ wr ⟨hg, hn, hc, hf, hgl⟩
        simp only [Need, fat, List.nil_append, List.cons_append, List.getD_cons_zero, List.getD_cons_succ, Fct.hold, and_true] at hn
        refine ⟨by simp [wantP, hn], ?_⟩
        simp [execOp, hn, hc, go_sem]
        exact rfl
      apply go_val (pre_gm m)
      · rintro ρ wr ⟨hg, hn, hc, hf, hgl⟩
        simp only [Need, fat, List.nil_append, List.cons_append, List.getD_cons_zero, List.getD_cons_succ, Fct.hold, and_true] at hn
        refine ⟨by simp [wantP, hn], ?_⟩
        simp [execOp, hn, hc, go_sem]
        exact rfl
      apply go_val (pre_gm m)
      · rintro ρ wr ⟨hg, hn, hc, hf, hgl⟩
        simp only [Need, fat, List.nil_append, List.cons_append, List.getD_cons_zero, List.getD_cons_succ, Fct.hold, and_true] at hn
        refine ⟨by simp [wantP, hn], ?_⟩
        obtain ⟨n1, n2⟩ := hn
        unfold execOp
        go_simp
        exact rfl
      refine go_call (p := fun u w' => Lk w' u (l.take h) (gh h) (gh h) ∧ Mk m w') (stab_lkm m _ _ _) ?_ ?_
      · rintro ρ wr ⟨hg, hn, hc, hf, hgl⟩
        simp only [Need, fat, List.nil_append, List.cons_append, List.getD_cons_zero, List.getD_cons_succ, Fct.hold, and_true] at hn
        refine ⟨by simp [wantP], _, _, by simp [execOp, hn, hf, hc, resolve, invoke, go_sem]; exact ⟨rfl, rfl⟩, ?_⟩
        have hlen : (l.take h).length = h := by rw [List.length_take]; omega
        have := HI.out (l.take h) (by have := HNN.out; omega) (by intro e; rw [e] at hlen; simp at hlen; omega) (by have := HNN.out; omega) _ wr (hg.mk HM.out) (HC1.out.gm HM.out ((Gm.drew m _).trans hg))
        rw [hlen] at this
        exact this
      apply go_val (pre_gm m)
      · rintro ρ wr ⟨hg, hn, hc, hf, hgl⟩
        simp only [Need, fat, List.nil_append, List.cons_append, List.getD_cons_zero, List.getD_cons_succ, Fct.hold, and_true] at hn
        refine ⟨by simp [wantP, hn], ?_⟩
        simp [execOp, hn, hc, go_sem]
        exact rfl
      apply go_val (pre_gm m)
      · rintro ρ wr ⟨hg, hn, hc, hf, hgl⟩
        simp only [Need, fat, List.nil_append, List.cons_append, List.getD_cons_zero, List.getD_cons_succ, Fct.hold, and_true] at hn
        refine ⟨by simp [wantP, hn], ?_⟩
        simp [execOp, hn, hc, go_sem]
        exact rfl
      apply go_val (pre_gm m)
      · rintro ρ wr ⟨hg, hn, hc, hf, hgl⟩
        simp only [Need, fat, List.nil_append, List.cons_append, List.getD_cons_zero, List.getD_cons_succ, Fct.hold, and_true] at hn
        refine ⟨by simp [wantP, hn], ?_⟩
        simp [execOp, hn, hc, go_sem]
        exact rfl
      apply go_val (pre_gm m)
      · rintro ρ wr ⟨hg, hn, hc, hf, hgl⟩
        simp only [Need, fat, List.nil_append, List.cons_append, List.getD_cons_zero, List.getD_cons_succ, Fct.hold, and_true] at hn
        refine ⟨by simp [wantP, hn], ?_⟩
        obtain ⟨n1, n2⟩ := hn
        unfold execOp
        go_simp
        exact rfl
      refine go_call (p := fun u w' => Lk w' u (l.drop h) (gh (l.length - h)) (gh (l.length - h)) ∧ Mk m w') (stab_lkm m _ _ _) ?_ ?_
      · rintro ρ wr ⟨hg, hn, hc, hf, hgl⟩
        simp only [Need, fat, List.nil_append, List.cons_append, List.getD_cons_zero, List.getD_cons_succ, Fct.hold, and_true] at hn
        refine ⟨by simp [wantP], _, _, by simp [execOp, hn, hf, hc, resolve, invoke, go_sem]; exact ⟨rfl, rfl⟩, ?_⟩
        have hlen : (l.drop h).length = l.length - h := by rw [List.length_drop]
        have := HI.out (l.drop h) (by have := HNN.out; omega) (by intro e; rw [e] at hlen; simp at hlen; omega) (by have := HNN.out; omega) _ wr (hg.mk HM.out) (HC2.out.gm HM.out ((Gm.drew m _).trans hg))
        rw [hlen] at this
        exact this
      refine go_call (p := fun u w' => Lk w' u l (gh l.length) (gh l.length) ∧ Mk m w') (stab_lkm m _ _ _) ?_ ?_
      · rintro ρ wr ⟨hg, hn, hc, hf, hgl⟩
        simp only [Need, fat, List.nil_append, List.cons_append, List.getD_cons_zero, List.getD_cons_succ, Fct.hold, and_true] at hn
        obtain ⟨hn1, hn2⟩ := hn
        have HN1 := Lib.hid hn1
        have HN2 := Lib.hid hn2
        clear hn1 hn2
        refine ⟨by simp [wantP], _, _, by simp [execOp, wantP, hf, hc, resolve, invoke, go_sem]; exact ⟨rfl, rfl⟩, ?_⟩
        obtain ⟨⟨t1, a1, a2, a3, a4, a5⟩, a6⟩ := HN1.out
        obtain ⟨⟨t2, b1, b2, b3, b4, b5⟩, b6⟩ := HN2.out
        have e1 := t1.ht_le a2
        have e2 := t2.ht_le b2
        have e3 : t1.text.length ≤ l.length := by rw [a3, List.length_take]; omega
        have e4 : t2.text.length ≤ l.length := by rw [b3, List.length_drop]; omega
        have e5 := HNN.out
        have e7 : t1.text.length + t2.text.length ≤ l.length := by rw [a3, b3, List.length_take, List.length_drop]; omega
        refine (pair_any _ _ t1 t2 wr a1 b1 (by omega) (by omega) (by omega)).mono ?_
        rintro e w4 ⟨u4, rfl, h4, hk4⟩
        have e6 := HG.out
        have e8 := gh_big HH.out
        have e9 := HHE.out
        rw [e9] at e8
        exact ⟨u4, rfl, ⟨⟨_, h4, ⟨a2, b2, by omega, by omega⟩, by simp only [Tr.text]; rw [a3, b3, List.take_append_drop], by simp only [Tr.ht]; omega, by simp only [Tr.ht]; omega⟩, (hk4.gm m).mk a6⟩, hk4.gm m⟩
      refine go_so (pre_gm m) (p := fun u w' => Lk w' u l (gh l.length) (gh l.length) ∧ Mk m w') (stab_lkm m _ _ _) ?_ ?_
      · rintro ρ wr ⟨hg, hn, hc, hf, hgl⟩
        simp only [Need, fat, List.nil_append, List.cons_append, List.getD_cons_zero, List.getD_cons_succ, Fct.hold, and_true] at hn
        exact ⟨by simp [wantP], _, by simp [execOp, go_sem], hn⟩
      intro w2 hk2
      simp only [Post, List.nil_append, List.cons_append, Act.put, List.setIfInBounds_toArray, List.set_cons_zero, List.set_cons_succ]
      intro u1 h1 u2 h2 u3 h3 u4 h4
      have H4 := Lib.hid (And.intro h4 hk2)
      clear h1 h2 h3 h4 hk2
      rename_i K hK
      refine hK _ _ ?_
      clear hK K
      obtain ⟨t, ht, -⟩ := id H4.out.1.1
      obtain ⟨k4, _, _, _, rfl, -⟩ := ht.block
      clear ht
      unfold ptr
      go_wp2_with fail
      go_ret
      exact ⟨_, rfl, H4.out.1, (Gm.drew m w).trans H4.out.2⟩
theorem grow_any (m : Nat) (l : List UInt8) (hl : l.length ≤ 90000000000000) (v : Value) (w : World) (hm : Mk m w) (hb : Bs w v l) : Calls Try.prog 19 #[ptr m, v] w (Ret (Gm m) (fun u w' => OL w' u l ∧ Mk m w') w) := by
  by_cases h : l = []
  · subst h
    obtain ⟨A, c, rfl, -, -, -⟩ := hb
    have HM := Lib.hid hm
    clear hm
    unfold ptr
    simp only [List.length_nil]
    go_enter Try.func19, Try.ntmps19
    go_wp2_with fail
    go_ret
    exact ⟨_, rfl, ⟨OL.nil _, HM.out⟩, Gm.refl _ _⟩
  · refine (grow_t m _ l (Nat.le_refl _) h hl v w hm hb).mono ?_
    rintro e w' ⟨u, rfl, ⟨⟨t, h1, h2, h3, -⟩, h4⟩, h5⟩
    refine ⟨u, rfl, ⟨?_, h4⟩, h5⟩
    rw [← h3]
    exact OL.of h1 h2
/-- A rope of that text and that maker. -/
def Rp (w : World) (v : Value) (s : List UInt8) (m : Nat) : Prop := ∃ g root, v = ptr g ∧ w.heap[g]? = some (.cells #[root, ptr m] 54 (0, 0)) ∧ OL w root s ∧ Mk m w
theorem Rp.kept {w w' : World} {v : Value} {s : List UInt8} {m : Nat} (h : Rp w v s m) (k : Kept w w') : Rp w' v s m := by
  obtain ⟨g, r, h1, h2, h3, h4⟩ := h
  exact ⟨g, r, h1, k.blk h2, h3.kept k, (k.gm m).mk h4⟩
theorem Rp.gm {w w' : World} {v : Value} {s : List UInt8} {m : Nat} (h : Rp w v s m) (k : Gm m w w') : Rp w' v s m := by
  obtain ⟨g, r, h1, h2, h3, h4⟩ := h
  exact ⟨g, r, h1, k.blk h2 (h4.ne h2 (by decide)), h3.gm h4 k, k.mk h4⟩
set_option maxHeartbeats 1000000 in
theorem new_any (l : List UInt8) (hl : l.length ≤ 90000000000000) (v : Value) (w : World) (hb : Bs w v l) : Calls Try.prog 8 #[v] w fun e w' => ∃ u m, e = .returned u ∧ Rp w' u l m ∧ w.heap.size ≤ m ∧ Kept w w' := by
  have HB := Lib.hid hb
  obtain ⟨A, c, rfl, -, -, -⟩ := hb
  have HL := Lib.hid hl
  clear hl
  go_enter Try.func8, Try.ntmps8
  go_wp2_with fail
  refine (grow_any w.heap.size l HL.out _ _ ⟨_, blk_new _ _⟩ (HB.out.keep ((Kept.refl _).alloc _))).mono ?_
  rintro e w1 ⟨u, rfl, ⟨h1, h2⟩, h3⟩
  have H1 := Lib.hid (And.intro h1 (And.intro h2 h3))
  clear h1 h2 h3
  obtain ⟨p, rfl⟩ := H1.out.1.ptr
  go_wp2_with fail
  go_ret
  have hk0 : Kept w1 (w1.alloc (.cells #[.pointer p, .pointer (some ⟨w.heap.size, 0, none⟩)] 54 (0, 0))) := (Kept.refl _).alloc _
  exact ⟨_, w.heap.size, rfl, ⟨_, _, rfl, blk_new _ _, H1.out.1.kept hk0, (hk0.gm _).mk H1.out.2.1⟩, Nat.le_refl _, H1.out.2.2.fresh.trans hk0⟩
end Go.Proofs.Ytdobbindilibjaa
