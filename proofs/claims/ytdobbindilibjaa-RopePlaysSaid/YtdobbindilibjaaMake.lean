/-
  What rope.join, ahead and behind do, on values and memory.
-/
import Derived.Test.YtdobbindilibjaaSmall
set_option linter.unusedSimpArgs false
namespace Go.Proofs.Ytdobbindilibjaa.Kit
open Go Go.RowKit
theorem pre_gm' (m : Nat) : Pre (Gm m) := ⟨Gm.refl m, Gm.trans⟩
theorem stab_olm (m : Nat) (s : List UInt8) : ∀ (u : Value) (w w' : World), Gm m w w' → (OL w u s ∧ Mk m w) → (OL w' u s ∧ Mk m w') := fun _ _ _ h ⟨k, hm⟩ => ⟨k.gm hm h, h.mk hm⟩
theorem stab_atm (m : Nat) (t : Tr) : ∀ (u : Value) (w w' : World), Gm m w w' → (At w u t ∧ Mk m w) → (At w' u t ∧ Mk m w') := fun _ _ _ h ⟨k, hm⟩ => ⟨k.gm hm h, h.mk hm⟩
theorem Gm.nd {m : Nat} {w w' : World} (h : Gm m w w') (hm : Mk m w) {k : Nat} {l r : Value} {s : List UInt8} {n f hh : Nat} (hk : w.heap[k]? = some (nd l r s n f hh)) : w'.heap[k]? = some (Kit.nd l r s n f hh) := h.blk hk (hm.ne hk (by decide))
theorem ba_app (a b : List UInt8) : (⟨a.toArray⟩ : ByteArray) ++ ⟨b.toArray⟩ = ⟨(a ++ b).toArray⟩ := by
  apply ByteArray.ext
  simp [ByteArray.data_append]
theorem Mk.drew {m : Nat} {w : World} (h : Mk m w) : Mk m w.drew := h
theorem Gm.drew (m : Nat) (w : World) : Gm m w w.drew := (Kept.drew (Kept.refl w)).gm m
end Go.Proofs.Ytdobbindilibjaa.Kit
namespace Go.Proofs.Ytdobbindilibjaa
open Go Go.RowKit Kit
theorem leaf_m (m : Nat) (s : List UInt8) (w : World) (hm : Mk m w) : Calls Try.prog 31 #[ptr m, .string ⟨s.toArray⟩] w (Ret (Gm m) (fun u w' => At w' u (.leaf s) ∧ Mk m w') w) :=
  (leaf_any m s w hm).mono fun _ _ ⟨v, he, h1, h2⟩ => ⟨v, he, ⟨h1, h2.mk hm⟩, h2⟩
theorem link_m (m : Nat) (a b : Value) (s t : List UInt8) (w : World) (hm : Mk m w) (ha : OL w a s) (hb : OL w b t) (hn : s.length + t.length ≤ 100000000000000) :
    Calls Try.prog 35 #[a, b] w (Ret (Gm m) (fun u w' => OL w' u (s ++ t) ∧ Mk m w') w) :=
  (link_any a b s t w ha hb hn).mono fun _ _ ⟨v, he, h1, h2⟩ => ⟨v, he, ⟨h1, (h2.gm m).mk hm⟩, h2.gm m⟩
theorem withLast_m (m : Nat) (t : Tr) (v lv : Value) (s : List UInt8) (w : World) (hm : Mk m w) (h : At w v t) (hs : At w lv (.leaf s)) (hn : t.text.length + s.length ≤ 100000000000000) (ok : t.Ok) :
    Calls Try.prog 38 #[v, lv] w (Ret (Gm m) (fun u w' => At w' u (t.setLast s) ∧ Mk m w') w) :=
  (withLast_any t v lv s w h hs hn ok).mono fun _ _ ⟨v, he, h1, h2⟩ => ⟨v, he, ⟨h1, (h2.gm m).mk hm⟩, h2.gm m⟩

set_option maxHeartbeats 4000000 in
theorem join_some (m : Nat) (a b : Value) (t1 t2 : Tr) (w : World) (hm : Mk m w) (ha : At w a t1) (hb : At w b t2) (o1 : t1.Ok) (o2 : t2.Ok) (hn : t1.text.length + t2.text.length ≤ 90000000000000) :
    Calls Try.prog 29 #[ptr m, a, b] w (Ret (Gm m) (fun u w' => OL w' u (t1.text ++ t2.text) ∧ Mk m w') w) := by
  obtain ⟨ka, _, _, _, rfl, -⟩ := ha.block
  obtain ⟨kb, _, _, _, rfl, -⟩ := hb.block
  have HA := Lib.hid ha
  have HB := Lib.hid hb
  have HM := Lib.hid hm
  have O1 := Lib.hid o1
  have O2 := Lib.hid o2
  have HN := Lib.hid hn
  have E1 := Lib.hid t1.text_last
  have E2 := Lib.hid t2.text_first
  have x1 := t1.lastL_ok o1
  have x2 := t2.firstL_ok o2
  have HX := Lib.hid (And.intro x1.1 x2.1)
  have HP := Lib.hid (t2.pos o2)
  have HE := Lib.hid (And.intro t1.lastL_le (And.intro x1.2 x2.2))
  have hl1 := last_any _ t1 w ha
  have hl2 := first_any _ t2 w hb
  clear ha hb hm o1 o2 hn
  generalize t1.lastL = x at *
  generalize t2.firstL = y at *
  unfold ptr at *
  go_enter Try.func29, Try.ntmps29
  go_wp2_with fail
  refine hl1.mono ?_
  rintro e w1 ⟨⟨u1, rfl, h1⟩, rfl⟩
  obtain ⟨k1, rfl, hk1⟩ := h1
  obtain ⟨-, -, p2, p3, -⟩ := box6 hk1
  have HK1 := Lib.hid hk1
  clear hk1 hl1
  unfold ptr
  go_wp2_with fail
  refine hl2.mono ?_
  rintro e w1 ⟨⟨u1, rfl, h1⟩, rfl⟩
  obtain ⟨k2, rfl, hk2⟩ := h1
  obtain ⟨-, -, q2, q3, -⟩ := box6 hk2
  have HK2 := Lib.hid hk2
  clear hk2 hl2
  unfold ptr
  have z1 : (x.length : Int) ≤ 64 := by omega
  have z2 : (y.length : Int) ≤ 64 := by omega
  have z3 : (0 : Int) ≤ x.length := by omega
  have z4 : (0 : Int) ≤ y.length := by omega
  clear x1 x2
  generalize hxl : (x.length : Int) = n1 at *
  generalize hyl : (y.length : Int) = n2 at *
  have HL := Lib.hid (And.intro hxl hyl)
  clear hxl hyl
  by_cases hsm : n1 + n2 ≤ 64
  · go_wp2_with fail
    go_quiet (fail)
    go_wp2_with fail
    refine wp_from (w := w) (kept_drewN w _) ?_
    intro w1 hk1
    have hk1 := (Lib.hid (hk1.gm m)).out
    replace HA := Lib.hid (HA.out.gm HM.out hk1)
    replace HB := Lib.hid (HB.out.gm HM.out hk1)
    replace HK1 := Lib.hid (hk1.nd HM.out HK1.out)
    replace HK2 := Lib.hid (hk1.nd HM.out HK2.out)
    replace HM := Lib.hid (hk1.mk HM.out)
    have H1 := Lib.hid hk1
    clear hk1 p2 p3 q2 q3
    refine wp_region_go (Gm m) (pre_gm m) [([(1, none)], none), ([(0, none)], none), ([(7, none)], none), ([(34, some 2)], none), ([(35, some 3)], none), ([(36, some 4)], none), ([(8, none)], none), ([(38, some 6)], none), ([(39, some 7)], none), ([(40, some 8)], none), ([(37, some 5), (41, some 9)], none), ([(33, some 1), (42, some 10)], none), ([(32, some 0), (43, some 11)], none), ([(44, some 12)], none)] (by kernel_rfl) 50 rfl (by kernel_rfl) (by kernel_rfl) ?_
    apply go_val (pre_gm m)
    · rintro ρ wr ⟨hg, hn, hc, hf, hgl⟩
      simp only [Need, fat, List.nil_append, List.cons_append, List.getD_cons_zero, List.getD_cons_succ, Fct.hold, and_true] at hn
      refine ⟨by simp [wantP, hn], ?_⟩
      simp [execOp, hn, hc, go_sem]
      exact rfl
    apply go_val (pre_gm m)
    · rintro ρ wr ⟨hg, hn, hc, hf, hgl⟩
      simp only [Need, fat, List.nil_append, List.cons_append, List.getD_cons_zero, List.getD_cons_succ, Fct.hold, and_true] at hn
      refine ⟨by simp [wantP, hn], ?_⟩
      simp [execOp, hn, hc, go_sem]
      exact rfl
    apply go_val (pre_gm m)
    · rintro ρ wr ⟨hg, hn, hc, hf, hgl⟩
      simp only [Need, fat, List.nil_append, List.cons_append, List.getD_cons_zero, List.getD_cons_succ, Fct.hold, and_true] at hn
      refine ⟨by simp [wantP, hn], ?_⟩
      simp [execOp, hn, hc, go_sem]
      exact rfl
    apply go_val (pre_gm m)
    · rintro ρ wr ⟨hg, hn, hc, hf, hgl⟩
      simp only [Need, fat, List.nil_append, List.cons_append, List.getD_cons_zero, List.getD_cons_succ, Fct.hold, and_true] at hn
      refine ⟨by simp [wantP, hn], ?_⟩
      simp [execOp, hn, hc, go_sem]
      exact rfl
    apply go_val (pre_gm m)
    · rintro ρ wr ⟨hg, hn, hc, hf, hgl⟩
      simp only [Need, fat, List.nil_append, List.cons_append, List.getD_cons_zero, List.getD_cons_succ, Fct.hold, and_true] at hn
      refine ⟨by simp [wantP, hn], ?_⟩
      simp [execOp, hn, hc, go_sem]
      exact rfl
    apply go_val (pre_gm m)
    · rintro ρ wr ⟨hg, hn, hc, hf, hgl⟩
      simp only [Need, fat, List.nil_append, List.cons_append, List.getD_cons_zero, List.getD_cons_succ, Fct.hold, and_true] at hn
      have hl := And.intro (box6 (hg.nd HM.out HK1.out)).2.2.1 (box6 (hg.nd HM.out HK2.out)).2.2.1
      refine ⟨by simp [wantP, hn], ?_⟩
      simp [execOp, hn, hc, hl, go_sem]
      exact rfl
    apply go_val (pre_gm m)
    · rintro ρ wr ⟨hg, hn, hc, hf, hgl⟩
      simp only [Need, fat, List.nil_append, List.cons_append, List.getD_cons_zero, List.getD_cons_succ, Fct.hold, and_true] at hn
      refine ⟨by simp [wantP, hn], ?_⟩
      simp [execOp, hn, hc, go_sem]
      exact rfl
    apply go_val (pre_gm m)
    · rintro ρ wr ⟨hg, hn, hc, hf, hgl⟩
      simp only [Need, fat, List.nil_append, List.cons_append, List.getD_cons_zero, List.getD_cons_succ, Fct.hold, and_true] at hn
      refine ⟨by simp [wantP, hn], ?_⟩
      simp [execOp, hn, hc, go_sem]
      exact rfl
    apply go_val (pre_gm m)
    · rintro ρ wr ⟨hg, hn, hc, hf, hgl⟩
      simp only [Need, fat, List.nil_append, List.cons_append, List.getD_cons_zero, List.getD_cons_succ, Fct.hold, and_true] at hn
      refine ⟨by simp [wantP, hn], ?_⟩
      simp [execOp, hn, hc, go_sem]
      exact rfl
    apply go_val (pre_gm m)
    · rintro ρ wr ⟨hg, hn, hc, hf, hgl⟩
      simp only [Need, fat, List.nil_append, List.cons_append, List.getD_cons_zero, List.getD_cons_succ, Fct.hold, and_true] at hn
      have hl := And.intro (box6 (hg.nd HM.out HK1.out)).2.2.1 (box6 (hg.nd HM.out HK2.out)).2.2.1
      refine ⟨by simp [wantP, hn], ?_⟩
      simp [execOp, hn, hc, hl, go_sem]
      exact rfl
    apply go_val (pre_gm m)
    · rintro ρ wr ⟨hg, hn, hc, hf, hgl⟩
      simp only [Need, fat, List.nil_append, List.cons_append, List.getD_cons_zero, List.getD_cons_succ, Fct.hold, and_true] at hn
      refine ⟨by simp [wantP, hn], ?_⟩
      have hq : ¬ (9223372036854775807 < x.length + y.length) := by have := HE.out; omega
      simp [execOp, hn, hc, go_sem, ba_app, hq]
      exact rfl
    refine go_call (p := fun u w' => At w' u (.leaf (x ++ y)) ∧ Mk m w') (stab_atm m _) ?_ ?_
    · rintro ρ wr ⟨hg, hn, hc, hf, hgl⟩
      simp only [Need, fat, List.nil_append, List.cons_append, List.getD_cons_zero, List.getD_cons_succ, Fct.hold, and_true] at hn
      refine ⟨by simp [wantP, hn], _, _, by simp [execOp, hn, hf, hc, resolve, invoke, go_sem]; exact ⟨rfl, rfl⟩, ?_⟩
      exact leaf_m m _ wr (hg.mk HM.out)
    refine go_call (p := fun u w' => At w' u (t1.setLast (x ++ y)) ∧ Mk m w') (stab_atm m _) ?_ ?_
    · rintro ρ wr ⟨hg, hn, hc, hf, hgl⟩
      simp only [Need, fat, List.nil_append, List.cons_append, List.getD_cons_zero, List.getD_cons_succ, Fct.hold, and_true] at hn
      obtain ⟨hn1, hn2⟩ := hn
      have HN2 := Lib.hid hn2
      clear hn2
      refine ⟨by simp [wantP], _, _, by simp [execOp, hn1, hf, hc, resolve, invoke, go_sem]; exact ⟨rfl, rfl⟩, ?_⟩
      exact withLast_m m t1 _ _ _ wr (hg.mk HM.out) (HA.out.gm HM.out ((Gm.drew m _).trans hg)) HN2.out.1 (by have := HN.out; have := HE.out; have := HL.out; rw [List.length_append]; have := HP.out; omega) O1.out
    refine go_so (pre_gm m) (p := fun u w' => At w' u (t1.setLast (x ++ y)) ∧ Mk m w') (stab_atm m _) ?_ ?_
    · rintro ρ wr ⟨hg, hn, hc, hf, hgl⟩
      simp only [Need, fat, List.nil_append, List.cons_append, List.getD_cons_zero, List.getD_cons_succ, Fct.hold, and_true] at hn
      exact ⟨by simp [wantP], _, by simp [execOp, go_sem], hn⟩
    intro w2 hk2
    simp only [Post, List.nil_append, List.cons_append, Act.put, List.setIfInBounds_toArray, List.set_cons_zero, List.set_cons_succ]
    intro u43 h43 u44 h44 u1 h1
    have H44 := Lib.hid (And.intro h1 hk2)
    clear h43 h44 h1 hk2
    rename_i K hK
    refine hK _ _ ?_
    clear hK K
    obtain ⟨g, _, _, _, rfl, -⟩ := H44.out.1.1.block
    unfold ptr
    go_wp2_with fail
    refine (withoutFirst_any t2 _ _ (HB.out.gm HM.out ((Gm.drew m _).trans H44.out.2)) (by have := HN.out; omega) O2.out).mono ?_
    rintro e w3 ⟨u3, rfl, h3, hk3⟩
    have H3 := Lib.hid (And.intro h3 (hk3.gm m))
    clear h3 hk3
    obtain ⟨p3, rfl⟩ := H3.out.1.ptr
    go_wp2_with fail
    refine (link_m m _ _ (t1.initT ++ (x ++ y)) t2.tailT w3 (H3.out.2.mk H44.out.1.2) ?_ H3.out.1 ?_).mono ?_
    · have hh := H44.out.1.1.gm H44.out.1.2 H3.out.2
      have e := Tr.setLast_text t1 (x ++ y)
      rw [← e]
      exact OL.of hh (Tr.setLast_ok t1 _ O1.out (by have := HX.out; rw [List.length_append]; omega) (by have := HL.out; rw [List.length_append]; omega))
    · have := HN.out
      have e1 := congrArg List.length E1.out
      have e2 := congrArg List.length E2.out
      simp only [List.length_append] at e1 e2 ⊢
      omega
    rintro e w4 ⟨u4, rfl, h4, hk4⟩
    have H4 := Lib.hid (And.intro h4 hk4)
    clear h4 hk4
    obtain ⟨p4, rfl⟩ := H4.out.1.1.ptr
    go_wp2_with fail
    go_ret
    refine ⟨_, rfl, ⟨?_, H4.out.1.2⟩, H1.out.trans ((Gm.drew m _).trans (H44.out.2.trans (H3.out.2.trans H4.out.2)))⟩
    have := H4.out.1.1
    rw [E1.out, E2.out]
    simpa using this
  · go_wp2_with fail
    go_quiet (fail)
    go_wp2_with fail
    refine (link_m m _ _ t1.text t2.text _ ((kept_drewN w _).gm m |>.mk HM.out) ((OL.of HA.out O1.out).kept (kept_drewN w _)) ((OL.of HB.out O2.out).kept (kept_drewN w _)) (by have := HN.out; omega)).mono ?_
    rintro e w4 ⟨u4, rfl, h4, hk4⟩
    have H4 := Lib.hid (And.intro h4 hk4)
    clear h4 hk4
    obtain ⟨p4, rfl⟩ := H4.out.1.1.ptr
    go_wp2_with fail
    go_ret
    exact ⟨_, rfl, H4.out.1, ((kept_drewN w _).gm m).trans H4.out.2⟩
theorem join_any (m : Nat) (a b : Value) (s t : List UInt8) (w : World) (hm : Mk m w) (ha : OL w a s) (hb : OL w b t) (hn : s.length + t.length ≤ 90000000000000) :
    Calls Try.prog 29 #[ptr m, a, b] w (Ret (Gm m) (fun u w' => OL w' u (s ++ t) ∧ Mk m w') w) := by
  by_cases hs : (∃ t1, At w a t1 ∧ t1.Ok ∧ t1.text = s) ∧ (∃ t2, At w b t2 ∧ t2.Ok ∧ t2.text = t)
  · obtain ⟨⟨t1, h1, h2, rfl⟩, ⟨t2, h3, h4, rfl⟩⟩ := hs
    exact join_some m a b t1 t2 w hm h1 h3 h2 h4 hn
  · have H := Lib.hid (link_m m a b s t w hm ha hb (by omega))
    have hz : a = .pointer none ∨ ((∃ k, a = .pointer (some k)) ∧ b = .pointer none) := by
      obtain ⟨o1, h1, h2, h3⟩ := ha
      cases o1 with
      | none => exact .inl h1
      | some x =>
        obtain ⟨k, _, _, _, e, -⟩ := At.block h1
        obtain ⟨o2, h4, h5, h6⟩ := hb
        cases o2 with
        | none => exact .inr ⟨⟨_, e⟩, h4⟩
        | some y => exact absurd ⟨⟨x, h1, h2, h3⟩, ⟨y, h4, h5, h6⟩⟩ hs
    obtain ⟨p, rfl⟩ := ha.ptr
    obtain ⟨q, rfl⟩ := hb.ptr
    clear hs ha hb hn
    unfold ptr
    rcases hz with hz | ⟨⟨k, hz⟩, hz2⟩
    · injection hz with hz
      subst hz
      go_enter Try.func29, Try.ntmps29
      go_wp2_with fail
      refine H.out.mono ?_
      rintro e w4 ⟨u4, rfl, h4, hk4⟩
      have H4 := Lib.hid (And.intro h4 hk4)
      clear h4 hk4 hm H
      obtain ⟨p4, rfl⟩ := H4.out.1.1.ptr
      go_wp2_with fail
      go_ret
      exact ⟨_, rfl, H4.out.1, H4.out.2⟩
    · injection hz with hz
      injection hz2 with hz2
      subst hz hz2
      go_enter Try.func29, Try.ntmps29
      go_wp2_with fail
      refine H.out.mono ?_
      rintro e w4 ⟨u4, rfl, h4, hk4⟩
      have H4 := Lib.hid (And.intro h4 hk4)
      clear h4 hk4 hm H
      obtain ⟨p4, rfl⟩ := H4.out.1.1.ptr
      go_wp2_with fail
      go_ret
      exact ⟨_, rfl, H4.out.1, H4.out.2⟩
end Go.Proofs.Ytdobbindilibjaa
