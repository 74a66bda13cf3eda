/-
  What the methods of rope.Rope do, on values and memory.
-/
import Derived.Test.YtdobbindilibjaaGrowB
import Derived.Test.YtdobbindilibjaaCut
import Derived.Test.YtdobbindilibjaaPour
import Derived.Test.YtdobbindilibjaaFns
import Derived.Laws.MakeOwn
set_option linter.unusedSimpArgs false
namespace Go.Proofs.Ytdobbindilibjaa
open Go Go.RowKit Kit
theorem box2 {w : World} {k : Nat} {x y : Value} {t : TypeId} (h : w.heap[k]? = some (.cells #[x, y] t (0, 0))) : w.cell? ⟨k, 0, none⟩ = some x ∧ w.cell? ⟨k, 1, none⟩ = some y :=
  ⟨by rw [blk_cell h]; rfl, by rw [blk_cell h]; rfl⟩
theorem tree_any (v : Value) (s : List UInt8) (m : Nat) (w : World) (h : Rp w v s m) : Calls Try.prog 20 #[v] w fun e w' => (∃ p, e = .returned (.pointer p) ∧ OL w (.pointer p) s) ∧ w = w' := by
  obtain ⟨g, root, rfl, h2, h3, -⟩ := h
  obtain ⟨c0, -⟩ := box2 h2
  obtain ⟨p, rfl⟩ := h3.ptr
  have H := Lib.hid h3
  clear h2 h3
  unfold ptr
  go_enter Try.func20, Try.ntmps20
  go_wp2
  go_ret
  exact ⟨⟨_, rfl, H.out⟩, rfl⟩
theorem maker_any (v : Value) (s : List UInt8) (m : Nat) (w : World) (h : Rp w v s m) : Calls Try.prog 25 #[v] w fun e w' => e = .returned (ptr m) ∧ w = w' := by
  obtain ⟨g, root, rfl, h2, h3, -⟩ := h
  obtain ⟨c0, c1⟩ := box2 h2
  clear h2 h3
  unfold ptr at *
  go_enter Try.func25, Try.ntmps25
  go_wp2
  go_ret
  exact ⟨rfl, rfl⟩
theorem Len_any (v : Value) (s : List UInt8) (m : Nat) (w : World) (h : Rp w v s m) : Calls Try.prog 9 #[v] w fun e w' => e = .returned (.int .i64 s.length) ∧ w = w' := by
  have H := Lib.hid (tree_any v s m w h)
  obtain ⟨g, root, rfl, -⟩ := h
  unfold ptr at *
  go_enter Try.func9, Try.ntmps9
  go_wp2_with fail
  refine H.out.mono ?_
  rintro e w1 ⟨⟨p, rfl, h1⟩, rfl⟩
  have H1 := Lib.hid (len_any _ s w h1)
  clear h1
  go_wp2_with fail
  refine H1.out.mono ?_
  rintro e w1 ⟨rfl, rfl⟩
  go_wp2_with fail
  go_ret
  exact ⟨rfl, rfl⟩
theorem Height_any (v : Value) (s : List UInt8) (m : Nat) (w : World) (h : Rp w v s m) : Calls Try.prog 13 #[v] w fun e w' => (∃ k : Nat, e = .returned (.int .i64 k) ∧ 1 ≤ k ∧ (s = [] ∧ k = 1 ∨ ∃ t : Tr, t.Ok ∧ t.text = s ∧ t.ht = k)) ∧ w = w' := by
  have H := Lib.hid (tree_any v s m w h)
  obtain ⟨g, root, rfl, -⟩ := h
  unfold ptr at *
  go_enter Try.func13, Try.ntmps13
  go_wp2_with fail
  refine H.out.mono ?_
  rintro e w1 ⟨⟨p, rfl, o, h1, h2, h3⟩, rfl⟩
  cases o with
  | none =>
    cases h1
    go_wp2_with fail
    go_ret
    exact ⟨⟨1, rfl, Nat.le_refl _, .inl ⟨h3.symm, rfl⟩⟩, rfl⟩
  | some t =>
    obtain ⟨k, _, _, _, e, hk⟩ := At.block h1
    cases e
    obtain ⟨-, -, -, -, -, c5⟩ := box6 hk
    have HX := Lib.hid (And.intro h2 (And.intro h3 t.ht_pos))
    clear h1 h2 h3 hk
    generalize hq : t.ht = q at *
    have HQ := Lib.hid hq
    clear hq
    go_wp2_with fail
    go_ret
    exact ⟨⟨q, rfl, HX.out.2.2, .inr ⟨t, HX.out.1, HX.out.2.1, HQ.out⟩⟩, rfl⟩
theorem Lines_any (v : Value) (s : List UInt8) (m : Nat) (w : World) (h : Rp w v s m) (hs : s.length ≤ 100000000000000) : Calls Try.prog 11 #[v] w fun e w' => e = .returned (.int .i64 ((nl s : Int) + 1)) ∧ w = w' := by
  have H := Lib.hid (tree_any v s m w h)
  obtain ⟨g, root, rfl, -⟩ := h
  have hz := nl_le s
  unfold ptr at *
  go_enter Try.func11, Try.ntmps11
  go_wp2_with fail
  refine H.out.mono ?_
  rintro e w1 ⟨⟨p, rfl, o, h1, h2, h3⟩, rfl⟩
  cases o with
  | none =>
    cases h1
    subst h3
    go_wp2_with fail
    go_ret
    exact ⟨rfl, rfl⟩
  | some t =>
    have h3 : t.text = s := h3
    rw [← h3] at hz hs
    obtain ⟨k, _, _, _, e, hk⟩ := At.block h1
    cases e
    obtain ⟨-, -, -, -, c4, -⟩ := box6 hk
    clear h1 h2 hk
    have HT := Lib.hid h3
    clear h3
    generalize hq : nl t.text = q at *
    have HQ := Lib.hid hq
    clear hq
    have z1 : (q : Int) ≤ 100000000000000 := by omega
    have z2 : (0 : Int) ≤ q := by omega
    go_wp2_with fail
    go_ret
    refine ⟨?_, rfl⟩
    rw [← HT.out, HQ.out]
    rfl
theorem Own.bs {W0 w : World} {v : Value} {xs : List UInt8} (h : Own W0 w v xs) : Bs w v xs := Bs.of_own h
/-- min and max of two numbers. -/
theorem wpList_min {P : Program} {w : World} {ops : Array Oper} {rest : List Oper} {o : Oper} {a : Act} {Q : Exit → Act → World → Prop} (hgd : o.guard = none) (s x : Operand) (t : Array TypeId) (p q : Int)
    (ho : o.op = .call { callee := .builtin .min, args := #[s, x], argTypes := t }) (hs : a.eval s = .int .i64 p) (hx : a.eval x = .int .i64 q) (h : wpList P ops Q rest (a.put o.dst (.int .i64 (min p q))) w) : wpList P ops Q (o :: rest) a w := by
  refine wpList_plain hgd fun K hK => ?_
  unfold Oper.wp execOp
  simp only [ho, resolve, invoke, builtin, Sem.run_bind, Sem.run_pure, Result.andThen_ok, List.map_toArray, List.map_cons, List.map_nil, hs, hx]
  simp only [Builtin.min_, Builtin.max_]
  simp [go_sem]
  by_cases hq : q < p
  · simp [Builtin.min2, Builtin.max2, hq, go_sem]
    rw [show min p q = q from by omega] at h
    exact hK _ _ h
  · simp [Builtin.min2, Builtin.max2, hq, go_sem]
    rw [show min p q = p from by omega] at h
    exact hK _ _ h
theorem wpList_max {P : Program} {w : World} {ops : Array Oper} {rest : List Oper} {o : Oper} {a : Act} {Q : Exit → Act → World → Prop} (hgd : o.guard = none) (s x : Operand) (t : Array TypeId) (p q : Int)
    (ho : o.op = .call { callee := .builtin .max, args := #[s, x], argTypes := t }) (hs : a.eval s = .int .i64 p) (hx : a.eval x = .int .i64 q) (h : wpList P ops Q rest (a.put o.dst (.int .i64 (max p q))) w) : wpList P ops Q (o :: rest) a w := by
  refine wpList_plain hgd fun K hK => ?_
  unfold Oper.wp execOp
  simp only [ho, resolve, invoke, builtin, Sem.run_bind, Sem.run_pure, Result.andThen_ok, List.map_toArray, List.map_cons, List.map_nil, hs, hx]
  simp only [Builtin.min_, Builtin.max_]
  simp [go_sem]
  by_cases hq : p < q
  · simp [Builtin.min2, Builtin.max2, hq, go_sem]
    rw [show max p q = q from by omega] at h
    exact hK _ _ h
  · simp [Builtin.min2, Builtin.max2, hq, go_sem]
    rw [show max p q = p from by omega] at h
    exact hK _ _ h
set_option maxHeartbeats 1000000 in
theorem Slice_any (v : Value) (s : List UInt8) (m : Nat) (f g : Int) (w : World) (h : Rp w v s m) (hs : s.length ≤ 10000000) :
    Calls Try.prog 10 #[v, .int .i64 f, .int .i64 g] w fun e w' => ∃ u, e = .returned u ∧ Bs w' u ((s.take (max (max 0 (min f s.length)) (min g s.length)).toNat).drop (max 0 (min f s.length)).toNat) ∧ Kept w w' := by
  have H := Lib.hid (tree_any v s m w h)
  obtain ⟨gg, root, rfl, -⟩ := h
  obtain ⟨i0, hi, hz0, hz1, hz2⟩ := info_parts infoB
  obtain ⟨lo, hlo⟩ : ∃ lo : Nat, max 0 (min f s.length) = (lo : Int) := ⟨(max 0 (min f s.length)).toNat, by omega⟩
  obtain ⟨hi', hhi⟩ : ∃ hi : Nat, max (lo : Int) (min g s.length) = (hi : Int) := ⟨(max (lo : Int) (min g s.length)).toNat, by omega⟩
  rw [hlo, hhi]
  have q1 : (lo : Int) ≤ hi' := by omega
  have q2 : (hi' : Int) ≤ s.length := by omega
  have HLO := Lib.hid (And.intro hlo hhi)
  clear hlo hhi
  unfold ptr at *
  go_enter Try.func10, Try.ntmps10
  go_wp2_with fail
  refine H.out.mono ?_
  rintro e w1 ⟨⟨p, rfl, h1⟩, rfl⟩
  have H1 := Lib.hid (And.intro h1 (len_any _ s w h1))
  clear h1
  go_wp2_with fail
  refine H1.out.2.mono ?_
  rintro e w1 ⟨rfl, rfl⟩
  go_wp2_with (first | (with_reducible refine wpList_min rfl _ _ _ _ _ rfl rfl rfl ?_) | (with_reducible refine wpList_max rfl _ _ _ _ _ rfl rfl rfl ?_))
  rw [HLO.out.1]
  refine H1.out.2.mono ?_
  rintro e w1 ⟨rfl, rfl⟩
  go_wp2_with (first | (with_reducible refine wpList_min rfl _ _ _ _ _ rfl rfl rfl ?_) | (with_reducible refine wpList_max rfl _ _ _ _ _ rfl rfl rfl ?_))
  rw [HLO.out.2]
  rw [show (hi' : Int) - lo = ((hi' - lo : Nat) : Int) from by omega]
  obtain ⟨w2, hr, ho, hg⟩ := run_makeSlice_owned (P := Try.prog) (w := w) w.heap.size 22 5 i0 _ 1 Try.underlying22 hi hz0 hz1 .i64 .i64 (hi' - lo) (by omega) (by rw [hz2]; omega) (by simp [maxLen]; omega) (Nat.le_refl _)
  rw [hr]
  have HO : Hid (Own w w2 (.slice (some ⟨w.heap.size, 0, none⟩) 0 (hi' - lo)) [] ∧ Kept w w2) := Lib.hid ⟨ho, Kept.of_grown hg⟩
  clear hr ho hg
  simp only [Result.andThen_ok]
  go_wp2_with fail
  refine (pour_any w _ _ s [] lo hi' w2 H1.out.1 HO.out.2 HO.out.1 (by omega) (by omega) (by omega) (by omega) (by simp; omega)).mono ?_
  rintro e w3 ⟨u3, rfl, o3, k3⟩
  obtain ⟨A3, n3, c3, rfl⟩ := o3.form
  have H3 := Lib.hid (And.intro o3 k3)
  clear o3 k3
  go_wp2_with fail
  go_ret
  exact ⟨_, rfl, Own.bs (by simpa using H3.out.1), H3.out.2⟩
theorem tree_root (g m : Nat) (q : Option Addr) (w : World) (h2 : w.heap[g]? = some (.cells #[.pointer q, ptr m] 54 (0, 0))) : Calls Try.prog 20 #[.pointer (some ⟨g, 0, none⟩)] w fun e w' => e = .returned (.pointer q) ∧ w = w' := by
  obtain ⟨c0, -⟩ := box2 h2
  clear h2
  go_enter Try.func20, Try.ntmps20
  go_wp2
  go_ret
  exact ⟨rfl, rfl⟩
theorem ahead_any (m : Nat) (v : Value) (s : List UInt8) (w : World) (i : Nat) (hm : Mk m w) (h : OL w v s) (hs : s.length ≤ 90000000000000) (hi : i ≤ 90000000000000) :
    Calls Try.prog 27 #[ptr m, v, .int .i64 (i : Int)] w (Ret (Gm m) (fun u w' => OL w' u (s.take i) ∧ Mk m w') w) := by
  have HL := Lib.hid (len_any v s w h)
  obtain ⟨o, h1, h2, h3⟩ := h
  cases o with
  | some t =>
    have h3 : t.text = s := h3
    subst h3
    exact ahead_t m t h2 hs v w i hm h1 hi
  | none =>
    cases h1
    have h3 : [] = s := h3
    subst h3
    have HM := Lib.hid hm
    clear hm
    unfold ptr
    by_cases h0 : i = 0
    · subst h0
      go_enter Try.func27, Try.ntmps27
      go_wp2_with fail
      go_ret
      exact ⟨_, rfl, ⟨OL.nil _, HM.out⟩, Gm.refl _ _⟩
    · have h0' : ¬ (i : Int) ≤ 0 := by omega
      have h1' : (i : Int) ≥ 0 := by omega
      go_enter Try.func27, Try.ntmps27
      go_wp2_with fail
      refine HL.out.mono ?_
      rintro e w1 ⟨rfl, rfl⟩
      simp only [List.length_nil]
      go_wp2_with fail
      go_ret
      exact ⟨_, rfl, ⟨by simpa using OL.nil _, HM.out⟩, Gm.refl _ _⟩
theorem behind_any (m : Nat) (v : Value) (s : List UInt8) (w : World) (i : Nat) (hm : Mk m w) (h : OL w v s) (hs : s.length ≤ 90000000000000) (hi : i ≤ 90000000000000) :
    Calls Try.prog 28 #[ptr m, v, .int .i64 (i : Int)] w (Ret (Gm m) (fun u w' => OL w' u (s.drop i) ∧ Mk m w') w) := by
  have HL := Lib.hid (len_any v s w h)
  obtain ⟨o, h1, h2, h3⟩ := h
  cases o with
  | some t =>
    have h3 : t.text = s := h3
    subst h3
    exact behind_t m t h2 hs v w i hm h1 hi
  | none =>
    cases h1
    have h3 : [] = s := h3
    subst h3
    have HM := Lib.hid hm
    clear hm
    unfold ptr
    by_cases h0 : i = 0
    · subst h0
      go_enter Try.func28, Try.ntmps28
      go_wp2_with fail
      go_ret
      exact ⟨_, rfl, ⟨OL.nil _, HM.out⟩, Gm.refl _ _⟩
    · have h0' : ¬ (i : Int) ≤ 0 := by omega
      have h1' : (i : Int) ≥ 0 := by omega
      go_enter Try.func28, Try.ntmps28
      go_wp2_with fail
      refine HL.out.mono ?_
      rintro e w1 ⟨rfl, rfl⟩
      simp only [List.length_nil]
      go_wp2_with fail
      go_ret
      exact ⟨_, rfl, ⟨by simpa using OL.nil _, HM.out⟩, Gm.refl _ _⟩
/-- What stands ready within Splice. -/
structure Sp (W : World) (b m : Nat) (p d : Int) (A : Option Addr) (c : Nat) (l s : List UInt8) (q : Option Addr) : Prop where
  box : W.heap[b]? = some (.cells #[.int .i64 p, .int .i64 d, .slice A l.length c] 35 (0, 0))
  ins : Bs W (.slice A l.length c) l
  tr : OL W (.pointer q) s
  mak : Mk m W
theorem Sp.gm {W W' : World} {b m : Nat} {p d : Int} {A : Option Addr} {c : Nat} {l s : List UInt8} {q : Option Addr} (h : Sp W b m p d A c l s q) (k : Gm m W W') : Sp W' b m p d A c l s q :=
  ⟨k.blk h.box (h.mak.ne h.box (by decide)), h.ins.gm h.mak k, h.tr.gm h.mak k, k.mk h.mak⟩
/-- The text behind a splice. -/
def doL (b : List UInt8) (at' del : Int) (l : List UInt8) : List UInt8 := b.take (cutI at' b.length).toNat ++ l ++ b.drop ((cutI at' b.length).toNat + (cutI del (b.length - cutI at' b.length)).toNat)
set_option maxHeartbeats 4000000 in
theorem Splice_any (v : Value) (s : List UInt8) (m : Nat) (at' del : Int) (iv : Value) (l : List UInt8) (w : World) (h : Rp w v s m) (hb : Bs w iv l) (hs : s.length ≤ 10000000000000) (hl : l.length ≤ 10000000000000) :
    Calls Try.prog 17 #[v, .agg #[.int .i64 at', .int .i64 del, iv]] w (Ret (Gm m) (fun u w' => Rp w' u (doL s at' del l) m) w) := by
  have HR := Lib.hid h
  have HB := Lib.hid hb
  obtain ⟨gg, root, rfl, hblk, htr, hm⟩ := h
  obtain ⟨q, rfl⟩ := htr.ptr
  have HM := Lib.hid (And.intro hm (And.intro htr hblk))
  obtain ⟨A, c, rfl⟩ := hb.form
  have HC := fun (w' : World) h => Lib.hid (clamp_any s.length at' del (.slice A l.length c) l w' (by omega) (by omega) h (by omega))
  have HC := Lib.hid HC
  have HLN := Lib.hid (And.intro hs hl)
  unfold doL
  have hp := cutI_bd at' s.length
  generalize cutI at' s.length = p at *
  have hd := cutI_bd del (s.length - p)
  generalize cutI del (s.length - p) = d at *
  have hp2 := hp.2 (by omega)
  have hd2 := hd.2 (by omega)
  obtain ⟨p, rfl⟩ := Int.eq_ofNat_of_zero_le hp.1
  obtain ⟨d, rfl⟩ := Int.eq_ofNat_of_zero_le hd.1
  have x0 : (0 : Int) ≤ p := by omega
  have x1 : (0 : Int) ≤ d := by omega
  have x2 : (p : Int) + d ≤ 10000000000000 := by omega
  have x3 : p ≤ s.length := by omega
  have x4 : p + d ≤ s.length := by omega
  clear hp hd hb hm htr hblk hp2 hd2
  simp only [Int.toNat_natCast]
  unfold ptr
  go_enter Try.func17, Try.ntmps17
  go_wp2_with fail
  have ka : Kept w (w.alloc (.cells #[.int .i64 at', .int .i64 del, .slice A l.length c] 35 (0, 0))) := (Kept.refl _).alloc _
  refine (tree_root gg m q _ (ka.blk HM.out.2.2)).mono ?_
  rintro e w1 ⟨rfl, rfl⟩
  go_wp2_with fail
  refine (maker_any _ s m _ (HR.out.kept ka)).mono ?_
  rintro e w1 ⟨rfl, rfl⟩
  unfold ptr
  go_wp2_with fail
  have hbx := blk_new w (.cells #[.int .i64 at', .int .i64 del, .slice A l.length c] 35 (0, 0))
  obtain ⟨⟨c0, c1, c2⟩, -⟩ := box3 hbx
  have HBX := Lib.hid (And.intro hbx ka)
  clear hbx ka
  generalize w.alloc (.cells #[.int .i64 at', .int .i64 del, .slice A l.length c] 35 (0, 0)) = WA at *
  refine wp_region_fin' (by simp only [List.dropLast_cons_cons, List.dropLast_singleton]; exact rfl) (by simp only [List.getLast?_cons_cons, List.getLast?_singleton]; exact rfl) Kept pre_kept [([(5, none)], none), ([(13, some 0)], none), ([(3, none)], none), ([(14, some 1), (15, some 2)], none), ([(3, none), (16, some 3)], none)] (by kernel_rfl) 43 rfl (by kernel_rfl) (by kernel_rfl) rfl ?_
  apply go_val pre_kept
  · rintro ρ wr ⟨hg, hn, hc, hf, hgl⟩
    simp only [Need, fat, List.nil_append, List.cons_append, List.getD_cons_zero, List.getD_cons_succ, Fct.hold, and_true] at hn
    refine ⟨by simp [wantP, hn], ?_⟩
    simp [execOp, hn, hc, go_sem]
    exact rfl
  apply go_callv (x := .int .i64 s.length)
  · rintro ρ wr ⟨hg, hn, hc, hf, hgl⟩
    simp only [Need, fat, List.nil_append, List.cons_append, List.getD_cons_zero, List.getD_cons_succ, Fct.hold, and_true] at hn
    refine ⟨by simp [wantP], _, _, by simp [execOp, hn, hf, hc, resolve, invoke, go_sem]; exact ⟨rfl, rfl⟩, ?_⟩
    exact (len_any _ s _ (HM.out.2.1.kept (HBX.out.2.trans ((Kept.drew (Kept.refl _)).trans hg)))).mono fun e w' ⟨h1, h2⟩ => ⟨_, h1, rfl, by rw [h2]; exact Kept.refl _⟩
  apply go_val pre_kept
  · rintro ρ wr ⟨hg, hn, hc, hf, hgl⟩
    simp only [Need, fat, List.nil_append, List.cons_append, List.getD_cons_zero, List.getD_cons_succ, Fct.hold, and_true] at hn
    have hl := And.intro (hg.cell c0) (And.intro (hg.cell c1) (hg.cell c2))
    refine ⟨by simp [wantP, hn], ?_⟩
    simp [execOp, hn, hc, hl, go_sem]
    exact rfl
  refine go_call (p := fun v w' => ∃ u, v = .agg #[.int .i64 p, .int .i64 d, u] ∧ Bs w' u l) (fun _ _ _ h ⟨u, k1, k2⟩ => ⟨u, k1, k2.keep h⟩) ?_ ?_
  · rintro ρ wr ⟨hg, hn, hc, hf, hgl⟩
    simp only [Need, fat, List.nil_append, List.cons_append, List.getD_cons_zero, List.getD_cons_succ, Fct.hold, and_true] at hn
    refine ⟨by simp [wantP], _, _, by simp [execOp, hn, hf, hc, resolve, invoke, go_sem]; exact ⟨rfl, rfl⟩, ?_⟩
    exact (HC.out wr (HB.out.keep (HBX.out.2.trans ((Kept.drew (Kept.refl _)).trans hg)))).out.mono fun e w' ⟨v', h1, h2, h3⟩ => ⟨_, h1, ⟨v', rfl, h2⟩, h3⟩
  intro w2 hk2
  simp only [Post, List.nil_append, List.cons_append, Act.put, List.setIfInBounds_toArray, List.set_cons_zero, List.set_cons_succ]
  rintro _ ⟨u, rfl, h2⟩
  have H2 := Lib.hid h2
  obtain ⟨A3, c3, rfl⟩ := h2.form
  have hB := (Kept.drew (Kept.refl _)).trans hk2 |>.blk HBX.out.1
  have HKK := Lib.hid (HBX.out.2.trans ((Kept.drew (Kept.refl _)).trans hk2))
  obtain ⟨⟨d0, d1, d2⟩, f0, f1, f2⟩ := box3 hB
  have HB3 := Lib.hid hB
  clear h2 hB hk2 c0 c1 c2
  rename_i K hK
  unfold Oper.wp execOp
  go_simp
  refine hK _ _ ?_
  clear hK K
  have kw : Kept w (((w2.setCell ⟨w.heap.size, 0, none⟩ (.int .i64 p)).setCell ⟨w.heap.size, 1, none⟩ (.int .i64 d)).setCell ⟨w.heap.size, 2, none⟩ (.slice A3 l.length c3)) := ((HKK.out.setCell (Nat.le_refl _) _).setCell (Nat.le_refl _) _).setCell (Nat.le_refl _) _
  have hsp : Sp (((w2.setCell ⟨w.heap.size, 0, none⟩ (.int .i64 p)).setCell ⟨w.heap.size, 1, none⟩ (.int .i64 d)).setCell ⟨w.heap.size, 2, none⟩ (.slice A3 l.length c3)) w.heap.size m p d A3 c3 l s q :=
    ⟨blk_set3 HB3.out _ _ _, H2.out.set3 (fun c => by simp [bv]) HB3.out _ _ _, HM.out.2.1.kept kw, (kw.gm m).mk HM.out.1⟩
  have KW := Lib.hid (kw.gm m)
  have HS := Lib.hid hsp
  clear kw hsp d0 d1 d2 f0 f1 f2 HB3 H2 HKK HBX
  generalize ((w2.setCell ⟨w.heap.size, 0, none⟩ (.int .i64 p)).setCell ⟨w.heap.size, 1, none⟩ (.int .i64 d)).setCell ⟨w.heap.size, 2, none⟩ (.slice A3 l.length c3) = W at *
  obtain ⟨⟨d0, d1, d2⟩, -⟩ := box3 HS.out.box
  go_wp2_with fail
  refine (ahead_any m _ s W p HS.out.mak HS.out.tr (by have := HLN.out; omega) (by have := HLN.out; omega)).mono ?_
  rintro e w4 ⟨u4, rfl, h4, k4⟩
  obtain ⟨q4, rfl⟩ := h4.1.ptr
  have H4 := Lib.hid (And.intro h4.1 k4)
  replace HS := Lib.hid (HS.out.gm k4)
  replace KW := Lib.hid (KW.out.trans k4)
  clear h4 k4 d0 d1 d2
  obtain ⟨⟨d0, d1, d2⟩, -⟩ := box3 HS.out.box
  go_wp2_with fail
  rw [show (p : Int) + d = ((p + d : Nat) : Int) from by omega]
  refine (behind_any m _ s w4 (p + d) HS.out.mak HS.out.tr (by have := HLN.out; omega) (by have := HLN.out; omega)).mono ?_
  rintro e w5 ⟨u5, rfl, h5, k5⟩
  obtain ⟨q5, rfl⟩ := h5.1.ptr
  have H5 := Lib.hid (And.intro h5.1 k5)
  replace H4 := Lib.hid (H4.out.1.gm HS.out.mak k5)
  replace HS := Lib.hid (HS.out.gm k5)
  replace KW := Lib.hid (KW.out.trans k5)
  replace H5 := Lib.hid H5.out.1
  clear h5 k5 d0 d1 d2
  obtain ⟨⟨d0, d1, d2⟩, -⟩ := box3 HS.out.box
  go_wp2_with fail
  refine (grow_any m l (by have := HLN.out; omega) _ w5 HS.out.mak HS.out.ins).mono ?_
  rintro e w6 ⟨u6, rfl, h6, k6⟩
  obtain ⟨q6, rfl⟩ := h6.1.ptr
  have H6 := Lib.hid h6.1
  replace H4 := Lib.hid (H4.out.gm HS.out.mak k6)
  replace H5 := Lib.hid (H5.out.gm HS.out.mak k6)
  replace HS := Lib.hid (HS.out.gm k6)
  replace KW := Lib.hid (KW.out.trans k6)
  clear h6 k6 d0 d1 d2
  go_wp2_with fail
  refine (join_any m _ _ _ _ w6 HS.out.mak H4.out H6.out (by have := HLN.out; rw [List.length_take]; omega)).mono ?_
  rintro e w7 ⟨u7, rfl, h7, k7⟩
  obtain ⟨q7, rfl⟩ := h7.1.ptr
  have H7 := Lib.hid h7.1
  replace H5 := Lib.hid (H5.out.gm HS.out.mak k7)
  replace HS := Lib.hid (HS.out.gm k7)
  replace KW := Lib.hid (KW.out.trans k7)
  clear h7 k7 H4 H6
  go_wp2_with fail
  refine (join_any m _ _ _ _ w7 HS.out.mak H7.out H5.out (by have := HLN.out; simp only [List.length_append, List.length_take, List.length_drop]; omega)).mono ?_
  rintro e w8 ⟨u8, rfl, h8, k8⟩
  obtain ⟨q8, rfl⟩ := h8.1.ptr
  have H8 := Lib.hid h8
  replace KW := Lib.hid (KW.out.trans k8)
  clear h8 k8 H5 H7 HS
  go_wp2_with fail
  go_ret
  have hk0 : Kept w8 (w8.alloc (.cells #[.pointer q8, .pointer (some ⟨m, 0, none⟩)] 54 (0, 0))) := (Kept.refl _).alloc _
  exact ⟨_, rfl, ⟨_, _, rfl, blk_new _ _, H8.out.1.kept hk0, (hk0.gm m).mk H8.out.2⟩, KW.out.trans (hk0.gm m)⟩
end Go.Proofs.Ytdobbindilibjaa
