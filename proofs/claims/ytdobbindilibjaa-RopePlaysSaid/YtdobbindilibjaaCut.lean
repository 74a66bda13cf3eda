/-
  What rope.ahead and behind do, on values and memory.
-/
import Derived.Test.YtdobbindilibjaaMake
set_option linter.unusedSimpArgs false
namespace Go.Proofs.Ytdobbindilibjaa
open Go Go.RowKit Kit
theorem ba_take (s : List UInt8) (i : Nat) : (⟨s.toArray⟩ : ByteArray).extract 0 i = ⟨(s.take i).toArray⟩ := by
  apply ByteArray.ext
  simp [ByteArray.data_extract]
theorem ba_drop (s : List UInt8) (i : Nat) : (⟨s.toArray⟩ : ByteArray).extract i s.length = ⟨(s.drop i).toArray⟩ := by
  apply ByteArray.ext
  simp [ByteArray.data_extract]
  exact List.take_of_length_le (by simp)
/-- The contract of ahead (27) or behind (28) at a tree. -/
def CutTo (f : Nat) (cut : Nat → List UInt8 → List UInt8) (m : Nat) (t : Tr) : Prop := ∀ (v : Value) (w : World) (i : Nat), Mk m w → At w v t → i ≤ 90000000000000 →
  Calls Try.prog f #[ptr m, v, .int .i64 (i : Int)] w (Ret (Gm m) (fun u w' => OL w' u (cut i t.text) ∧ Mk m w') w)
set_option maxHeartbeats 4000000 in
theorem ahead_node (m : Nat) (l r : Tr) (hok : (Tr.node l r).Ok) (hn : (Tr.node l r).text.length ≤ 90000000000000) (il : CutTo 27 (fun i s => s.take i) m l) (ir : CutTo 27 (fun i s => s.take i) m r) : CutTo 27 (fun i s => s.take i) m (.node l r) := by
  intro v w i hm h hi
  obtain ⟨k, a, b, rfl, hk, ha, hb⟩ := id h
  have HV := Lib.hid h
  have HK := Lib.hid hk
  obtain ⟨c0, c1, -⟩ := box6 hk
  obtain ⟨ka, _, _, _, rfl, hka⟩ := ha.block
  obtain ⟨kb, _, _, _, rfl, -⟩ := hb.block
  obtain ⟨-, -, -, d3, -⟩ := box6 hka
  have HKA := Lib.hid hka
  have HL := Lib.hid ha
  have HR := Lib.hid hb
  have HM := Lib.hid hm
  have HO := Lib.hid hok
  have HN := Lib.hid hn
  have HIL := Lib.hid il
  have HIR := Lib.hid ir
  have hlen := len_any _ _ w (OL.of h hok)
  simp only [Tr.text, List.length_append] at hn hlen
  clear hk hka ha hb h hm hok il ir
  unfold ptr at *
  have z1 : (0 : Int) ≤ (l.text.length : Int) := by omega
  have z2 : (0 : Int) ≤ (r.text.length : Int) := by omega
  have z3 : (l.text.length : Int) + (r.text.length : Int) ≤ 90000000000000 := by omega
  have z4 : (0 : Int) ≤ (i : Int) := by omega
  have z5 : (i : Int) ≤ 90000000000000 := by omega
  rw [Int.natCast_add] at hlen
  generalize hn1 : (l.text.length : Int) = n1 at *
  generalize hn2 : (r.text.length : Int) = n2 at *
  generalize hii : (i : Int) = ii at *
  have HE := Lib.hid (And.intro hn1 (And.intro hn2 hii))
  clear hn1 hn2 hii hn hi
  by_cases h0 : ii ≤ 0
  · go_enter Try.func27, Try.ntmps27
    go_wp2_with fail
    go_ret
    refine ⟨_, rfl, ⟨?_, HM.out⟩, Gm.refl _ _⟩
    have e : i = 0 := by have := HE.out; omega
    subst e
    exact OL.nil _
  by_cases h1 : n1 + n2 ≤ ii
  · go_enter Try.func27, Try.ntmps27
    go_wp2_with fail
    refine hlen.mono ?_
    rintro e w1 ⟨rfl, rfl⟩
    go_wp2_with fail
    go_ret
    refine ⟨_, rfl, ⟨?_, HM.out⟩, Gm.refl _ _⟩
    have := OL.of HV.out HO.out
    have he : (Tr.node l r).text.length ≤ i := by have := HE.out; simp only [Tr.text, List.length_append]; omega
    simp only []
    rw [List.take_of_length_le he]
    exact this
  by_cases h2 : ii ≤ n1
  · go_enter Try.func27, Try.ntmps27
    go_wp2_with fail
    refine hlen.mono ?_
    rintro e w1 ⟨rfl, rfl⟩
    go_wp2_with fail
    refine (isLeaf_node _ l r w HV.out).mono ?_
    rintro e w1 ⟨rfl, rfl⟩
    go_wp2_with fail
    have e : ii = (i : Int) := by have := HE.out; omega
    rw [e]
    refine (HIL.out _ w i HM.out HL.out (by have := HE.out; omega)).mono ?_
    clear e
    rintro e w4 ⟨u4, rfl, h4, hk4⟩
    have H4 := Lib.hid (And.intro h4 hk4)
    clear h4 hk4
    obtain ⟨p4, rfl⟩ := H4.out.1.1.ptr
    go_wp2_with fail
    go_ret
    refine ⟨_, rfl, ⟨?_, H4.out.1.2⟩, H4.out.2⟩
    have := H4.out.1.1
    simp only [Tr.text]
    rw [List.take_append_of_le_length (by have := HE.out; omega)]
    exact this
  · go_enter Try.func27, Try.ntmps27
    go_wp2_with fail
    refine hlen.mono ?_
    rintro e w1 ⟨rfl, rfl⟩
    go_wp2_with fail
    refine (isLeaf_node _ l r w HV.out).mono ?_
    rintro e w1 ⟨rfl, rfl⟩
    go_wp2_with fail
    refine wp_region_go (Gm m) (pre_gm m) [([(0, none)], none), ([(1, none)], none), ([(45, some 1)], none), ([(46, some 2)], none), ([(47, some 3)], none), ([(0, none)], none), ([(1, none)], none), ([(50, some 6)], none), ([(51, some 7)], none), ([(52, some 8)], none), ([(2, none)], none), ([(1, none)], none), ([(55, some 11)], none), ([(56, some 12)], none), ([(57, some 13)], none), ([(58, some 14)], none), ([(59, some 15)], none), ([(60, some 16)], none), ([(54, some 10), (61, some 17)], none), ([(49, some 5), (53, some 9), (62, some 18)], none), ([(44, some 0), (48, some 4), (63, some 19)], none), ([(64, some 20)], none)] (by kernel_rfl) 65 rfl (by kernel_rfl) (by kernel_rfl) ?_
    apply go_val (pre_gm m)
    · rintro ρ wr ⟨hg, hn, hc, hf, hgl⟩
      simp only [Need, fat, List.nil_append, List.cons_append, List.getD_cons_zero, List.getD_cons_succ, Fct.hold, and_true] at hn
      refine ⟨by simp [wantP, hn], ?_⟩
      simp [execOp, hn, hc, go_sem]
      exact rfl
    apply go_val (pre_gm m)
    · rintro ρ wr ⟨hg, hn, hc, hf, hgl⟩
      simp only [Need, fat, List.nil_append, List.cons_append, List.getD_cons_zero, List.getD_cons_succ, Fct.hold, and_true] at hn
      refine ⟨by simp [wantP, hn], ?_⟩
      simp [execOp, hn, hc, go_sem]
      exact rfl
    apply go_val (pre_gm m)
    · rintro ρ wr ⟨hg, hn, hc, hf, hgl⟩
      simp only [Need, fat, List.nil_append, List.cons_append, List.getD_cons_zero, List.getD_cons_succ, Fct.hold, and_true] at hn
      refine ⟨by simp [wantP, hn], ?_⟩
      simp [execOp, hn, hc, go_sem]
      exact rfl
    apply go_val (pre_gm m)
    · rintro ρ wr ⟨hg, hn, hc, hf, hgl⟩
      simp only [Need, fat, List.nil_append, List.cons_append, List.getD_cons_zero, List.getD_cons_succ, Fct.hold, and_true] at hn
      refine ⟨by simp [wantP, hn], ?_⟩
      simp [execOp, hn, hc, go_sem]
      exact rfl
    apply go_val (pre_gm m)
    · rintro ρ wr ⟨hg, hn, hc, hf, hgl⟩
      simp only [Need, fat, List.nil_append, List.cons_append, List.getD_cons_zero, List.getD_cons_succ, Fct.hold, and_true] at hn
      have hl := And.intro (box6 (hg.nd HM.out HK.out)).1 (And.intro (box6 (hg.nd HM.out HK.out)).2.1 (box6 (hg.nd HM.out HKA.out)).2.2.2.1)
      simp only [HE.out.1] at hl
      refine ⟨by simp [wantP, hn], ?_⟩
      simp [execOp, hn, hc, hl, go_sem]
      exact rfl
    apply go_val (pre_gm m)
    · rintro ρ wr ⟨hg, hn, hc, hf, hgl⟩
      simp only [Need, fat, List.nil_append, List.cons_append, List.getD_cons_zero, List.getD_cons_succ, Fct.hold, and_true] at hn
      refine ⟨by simp [wantP, hn], ?_⟩
      simp [execOp, hn, hc, go_sem]
      exact rfl
    apply go_val (pre_gm m)
    · rintro ρ wr ⟨hg, hn, hc, hf, hgl⟩
      simp only [Need, fat, List.nil_append, List.cons_append, List.getD_cons_zero, List.getD_cons_succ, Fct.hold, and_true] at hn
      refine ⟨by simp [wantP, hn], ?_⟩
      simp [execOp, hn, hc, go_sem]
      exact rfl
    apply go_val (pre_gm m)
    · rintro ρ wr ⟨hg, hn, hc, hf, hgl⟩
      simp only [Need, fat, List.nil_append, List.cons_append, List.getD_cons_zero, List.getD_cons_succ, Fct.hold, and_true] at hn
      refine ⟨by simp [wantP, hn], ?_⟩
      simp [execOp, hn, hc, go_sem]
      exact rfl
    apply go_val (pre_gm m)
    · rintro ρ wr ⟨hg, hn, hc, hf, hgl⟩
      simp only [Need, fat, List.nil_append, List.cons_append, List.getD_cons_zero, List.getD_cons_succ, Fct.hold, and_true] at hn
      refine ⟨by simp [wantP, hn], ?_⟩
      simp [execOp, hn, hc, go_sem]
      exact rfl
    apply go_val (pre_gm m)
    · rintro ρ wr ⟨hg, hn, hc, hf, hgl⟩
      simp only [Need, fat, List.nil_append, List.cons_append, List.getD_cons_zero, List.getD_cons_succ, Fct.hold, and_true] at hn
      have hl := And.intro (box6 (hg.nd HM.out HK.out)).1 (And.intro (box6 (hg.nd HM.out HK.out)).2.1 (box6 (hg.nd HM.out HKA.out)).2.2.2.1)
      simp only [HE.out.1] at hl
      refine ⟨by simp [wantP, hn], ?_⟩
      simp [execOp, hn, hc, hl, go_sem]
      exact rfl
    apply go_val (pre_gm m)
    · rintro ρ wr ⟨hg, hn, hc, hf, hgl⟩
      simp only [Need, fat, List.nil_append, List.cons_append, List.getD_cons_zero, List.getD_cons_succ, Fct.hold, and_true] at hn
      refine ⟨by simp [wantP, hn], ?_⟩
      simp [execOp, hn, hc, go_sem]
      exact rfl
    apply go_val (pre_gm m)
    · rintro ρ wr ⟨hg, hn, hc, hf, hgl⟩
      simp only [Need, fat, List.nil_append, List.cons_append, List.getD_cons_zero, List.getD_cons_succ, Fct.hold, and_true] at hn
      refine ⟨by simp [wantP, hn], ?_⟩
      simp [execOp, hn, hc, go_sem]
      exact rfl
    apply go_val (pre_gm m)
    · rintro ρ wr ⟨hg, hn, hc, hf, hgl⟩
      simp only [Need, fat, List.nil_append, List.cons_append, List.getD_cons_zero, List.getD_cons_succ, Fct.hold, and_true] at hn
      refine ⟨by simp [wantP, hn], ?_⟩
      simp [execOp, hn, hc, go_sem]
      exact rfl
    apply go_val (pre_gm m)
    · rintro ρ wr ⟨hg, hn, hc, hf, hgl⟩
      simp only [Need, fat, List.nil_append, List.cons_append, List.getD_cons_zero, List.getD_cons_succ, Fct.hold, and_true] at hn
      refine ⟨by simp [wantP, hn], ?_⟩
      simp [execOp, hn, hc, go_sem]
      exact rfl
    apply go_val (pre_gm m)
    · rintro ρ wr ⟨hg, hn, hc, hf, hgl⟩
      simp only [Need, fat, List.nil_append, List.cons_append, List.getD_cons_zero, List.getD_cons_succ, Fct.hold, and_true] at hn
      have hl := And.intro (box6 (hg.nd HM.out HK.out)).1 (And.intro (box6 (hg.nd HM.out HK.out)).2.1 (box6 (hg.nd HM.out HKA.out)).2.2.2.1)
      simp only [HE.out.1] at hl
      refine ⟨by simp [wantP, hn], ?_⟩
      simp [execOp, hn, hc, hl, go_sem]
      exact rfl
    apply go_val (pre_gm m)
    · rintro ρ wr ⟨hg, hn, hc, hf, hgl⟩
      simp only [Need, fat, List.nil_append, List.cons_append, List.getD_cons_zero, List.getD_cons_succ, Fct.hold, and_true] at hn
      refine ⟨by simp [wantP, hn], ?_⟩
      simp [execOp, hn, hc, go_sem]
      exact rfl
    apply go_val (pre_gm m)
    · rintro ρ wr ⟨hg, hn, hc, hf, hgl⟩
      simp only [Need, fat, List.nil_append, List.cons_append, List.getD_cons_zero, List.getD_cons_succ, Fct.hold, and_true] at hn
      refine ⟨by simp [wantP, hn], ?_⟩
      simp [execOp, hn, hc, go_sem]
      exact rfl
    apply go_val (pre_gm m)
    · rintro ρ wr ⟨hg, hn, hc, hf, hgl⟩
      simp only [Need, fat, List.nil_append, List.cons_append, List.getD_cons_zero, List.getD_cons_succ, Fct.hold, and_true] at hn
      have hl := And.intro (box6 (hg.nd HM.out HK.out)).1 (And.intro (box6 (hg.nd HM.out HK.out)).2.1 (box6 (hg.nd HM.out HKA.out)).2.2.2.1)
      simp only [HE.out.1] at hl
      refine ⟨by simp [wantP, hn], ?_⟩
      simp [execOp, hn, hc, hl, go_sem]
      exact rfl
    apply go_val (pre_gm m)
    · rintro ρ wr ⟨hg, hn, hc, hf, hgl⟩
      simp only [Need, fat, List.nil_append, List.cons_append, List.getD_cons_zero, List.getD_cons_succ, Fct.hold, and_true] at hn
      have hq : IntKind.i64.wrap (ii - n1) = ii - n1 := IntWalk.i64_in _ (by omega)
      refine ⟨by simp [wantP, hn], ?_⟩
      simp [execOp, hn, hc, go_sem, hq]
      exact rfl
    refine go_call (p := fun u w' => OL w' u (r.text.take (i - l.text.length)) ∧ Mk m w') (stab_olm m _) ?_ ?_
    · rintro ρ wr ⟨hg, hn, hc, hf, hgl⟩
      simp only [Need, fat, List.nil_append, List.cons_append, List.getD_cons_zero, List.getD_cons_succ, Fct.hold, and_true] at hn
      refine ⟨by simp [wantP], _, _, by simp [execOp, hn, hf, hc, resolve, invoke, go_sem]; exact ⟨rfl, rfl⟩, ?_⟩
      have e : ii - n1 = ((i - l.text.length : Nat) : Int) := by have := HE.out; omega
      rw [e]
      exact HIR.out _ wr _ (hg.mk HM.out) (HR.out.gm HM.out ((Gm.drew m _).trans hg)) (by have := HE.out; omega)
    refine go_call (p := fun u w' => OL w' u (l.text ++ r.text.take (i - l.text.length)) ∧ Mk m w') (stab_olm m _) ?_ ?_
    · rintro ρ wr ⟨hg, hn, hc, hf, hgl⟩
      simp only [Need, fat, List.nil_append, List.cons_append, List.getD_cons_zero, List.getD_cons_succ, Fct.hold, and_true] at hn
      obtain ⟨hn1, hn2, hn3⟩ := hn
      have HN3 := Lib.hid hn3
      clear hn3
      refine ⟨by simp [wantP], _, _, by simp [execOp, hn1, hn2, hf, hc, resolve, invoke, go_sem]; exact ⟨rfl, rfl⟩, ?_⟩
      exact join_any m _ _ _ _ wr (hg.mk HM.out) ((OL.of HL.out HO.out.1).gm HM.out ((Gm.drew m _).trans hg)) HN3.out.1 (by have := HN.out; simp only [Tr.text, List.length_append] at this; rw [List.length_take]; omega)
    refine go_so (pre_gm m) (p := fun u w' => OL w' u (l.text ++ r.text.take (i - l.text.length)) ∧ Mk m w') (stab_olm m _) ?_ ?_
    · rintro ρ wr ⟨hg, hn, hc, hf, hgl⟩
      simp only [Need, fat, List.nil_append, List.cons_append, List.getD_cons_zero, List.getD_cons_succ, Fct.hold, and_true] at hn
      exact ⟨by simp [wantP], _, by simp [execOp, go_sem], hn⟩
    intro w2 hk2
    simp only [Post, List.nil_append, List.cons_append, Act.put, List.setIfInBounds_toArray, List.set_cons_zero, List.set_cons_succ]
    intro u63 h63 u64 h64 u4 h4
    clear h63 h64
    have H4 := Lib.hid (And.intro h4 hk2)
    clear h4 hk2
    rename_i K hK
    refine hK _ _ ?_
    clear hK K
    obtain ⟨p4, rfl⟩ := H4.out.1.1.ptr
    go_wp2_with fail
    go_ret
    refine ⟨_, rfl, ⟨?_, H4.out.1.2⟩, (Gm.drew m w).trans H4.out.2⟩
    have := H4.out.1.1
    simp only [Tr.text]
    rw [List.take_append, List.take_of_length_le (by have := HE.out; omega)]
    exact this
theorem ahead_leaf (m : Nat) (s : List UInt8) (hok : (Tr.leaf s).Ok) : CutTo 27 (fun i s => s.take i) m (.leaf s) := by
  intro v w i hm h hi
  have HV := Lib.hid h
  obtain ⟨k, rfl, hk⟩ := id h
  obtain ⟨-, -, c2, -⟩ := box6 hk
  have HM := Lib.hid hm
  have HO := Lib.hid hok
  have hlen := len_any _ _ w (OL.of h hok)
  simp only [Tr.text] at hlen
  have z1 := hok.1
  have z2 := hok.2
  clear hk h hm hok
  unfold ptr at *
  by_cases h0 : i = 0
  · subst h0
    go_enter Try.func27, Try.ntmps27
    go_wp2_with fail
    go_ret
    exact ⟨_, rfl, ⟨OL.nil _, HM.out⟩, Gm.refl _ _⟩
  have h0' : ¬ (i : Int) ≤ 0 := by omega
  by_cases h1 : s.length ≤ i
  · go_enter Try.func27, Try.ntmps27
    go_wp2_with fail
    refine hlen.mono ?_
    rintro e w1 ⟨rfl, rfl⟩
    go_wp2_with fail
    go_ret
    refine ⟨_, rfl, ⟨?_, HM.out⟩, Gm.refl _ _⟩
    have := OL.of HV.out HO.out
    have he : (Tr.leaf s).text.length ≤ i := h1
    simp only []
    rw [List.take_of_length_le he]
    exact this
  have h1' : ¬ (i : Int) ≥ s.length := by omega
  go_enter Try.func27, Try.ntmps27
  go_wp2_with fail
  refine hlen.mono ?_
  rintro e w1 ⟨rfl, rfl⟩
  go_wp2_with fail
  refine (isLeaf_leaf _ s w HV.out).mono ?_
  rintro e w1 ⟨rfl, rfl⟩
  go_wp2_with fail
  rw [ba_take]
  refine (leaf_m m _ w HM.out).mono ?_
  rintro e w4 ⟨u4, rfl, h4, hk4⟩
  have H4 := Lib.hid (And.intro h4 hk4)
  clear h4 hk4
  obtain ⟨k4, rfl, -⟩ := id H4.out.1.1
  unfold ptr
  go_wp2_with fail
  go_ret
  exact ⟨_, rfl, ⟨OL.of H4.out.1.1 (by show 1 ≤ (s.take i).length ∧ (s.take i).length ≤ 64; rw [List.length_take]; omega), H4.out.1.2⟩, H4.out.2⟩
theorem ahead_t (m : Nat) : ∀ t : Tr, t.Ok → t.text.length ≤ 90000000000000 → CutTo 27 (fun i s => s.take i) m t
  | .leaf s, h, _ => ahead_leaf m s h
  | .node l r, h, hn => ahead_node m l r h hn (ahead_t m l h.1 (by simp only [Tr.text, List.length_append] at hn; omega)) (ahead_t m r h.2.1 (by simp only [Tr.text, List.length_append] at hn; omega))
set_option maxHeartbeats 4000000 in
theorem behind_node (m : Nat) (l r : Tr) (hok : (Tr.node l r).Ok) (hn : (Tr.node l r).text.length ≤ 90000000000000) (il : CutTo 28 (fun i s => s.drop i) m l) (ir : CutTo 28 (fun i s => s.drop i) m r) : CutTo 28 (fun i s => s.drop i) m (.node l r) := by
  intro v w i hm h hi
  obtain ⟨k, a, b, rfl, hk, ha, hb⟩ := id h
  have HV := Lib.hid h
  have HK := Lib.hid hk
  obtain ⟨c0, c1, -⟩ := box6 hk
  obtain ⟨ka, _, _, _, rfl, hka⟩ := ha.block
  obtain ⟨kb, _, _, _, rfl, -⟩ := hb.block
  obtain ⟨-, -, -, d3, -⟩ := box6 hka
  have HKA := Lib.hid hka
  have HL := Lib.hid ha
  have HR := Lib.hid hb
  have HM := Lib.hid hm
  have HO := Lib.hid hok
  have HN := Lib.hid hn
  have HIL := Lib.hid il
  have HIR := Lib.hid ir
  have hlen := len_any _ _ w (OL.of h hok)
  simp only [Tr.text, List.length_append] at hn hlen
  clear hk hka ha hb h hm hok il ir
  unfold ptr at *
  have z1 : (0 : Int) ≤ (l.text.length : Int) := by omega
  have z2 : (0 : Int) ≤ (r.text.length : Int) := by omega
  have z3 : (l.text.length : Int) + (r.text.length : Int) ≤ 90000000000000 := by omega
  have z4 : (0 : Int) ≤ (i : Int) := by omega
  have z5 : (i : Int) ≤ 90000000000000 := by omega
  rw [Int.natCast_add] at hlen
  generalize hn1 : (l.text.length : Int) = n1 at *
  generalize hn2 : (r.text.length : Int) = n2 at *
  generalize hii : (i : Int) = ii at *
  have HE := Lib.hid (And.intro hn1 (And.intro hn2 hii))
  clear hn1 hn2 hii hn hi
  by_cases h0 : ii ≤ 0
  · go_enter Try.func28, Try.ntmps28
    go_wp2_with fail
    go_ret
    refine ⟨_, rfl, ⟨?_, HM.out⟩, Gm.refl _ _⟩
    have e : i = 0 := by have := HE.out; omega
    subst e
    exact (OL.of HV.out HO.out)
  by_cases h1 : n1 + n2 ≤ ii
  · go_enter Try.func28, Try.ntmps28
    go_wp2_with fail
    refine hlen.mono ?_
    rintro e w1 ⟨rfl, rfl⟩
    go_wp2_with fail
    go_ret
    refine ⟨_, rfl, ⟨?_, HM.out⟩, Gm.refl _ _⟩
    have := OL.of HV.out HO.out
    have he : (Tr.node l r).text.length ≤ i := by have := HE.out; simp only [Tr.text, List.length_append]; omega
    simp only []
    rw [List.drop_of_length_le he]
    exact OL.nil _
  by_cases h2 : n1 ≤ ii
  · go_enter Try.func28, Try.ntmps28
    go_wp2_with fail
    refine hlen.mono ?_
    rintro e w1 ⟨rfl, rfl⟩
    go_wp2_with fail
    refine (isLeaf_node _ l r w HV.out).mono ?_
    rintro e w1 ⟨rfl, rfl⟩
    go_wp2_with fail
    refine wp_region_go (Gm m) (pre_gm m) [([(0, none)], none), ([(1, none)], none), ([(38, some 1)], none), ([(39, some 2)], none), ([(40, some 3)], none), ([(2, none)], none), ([(1, none)], none), ([(43, some 6)], none), ([(44, some 7)], none), ([(45, some 8)], none), ([(46, some 9)], none), ([(47, some 10)], none), ([(48, some 11)], none), ([(42, some 5), (49, some 12)], none), ([(37, some 0), (41, some 4), (50, some 13)], none), ([(51, some 14)], none)] (by kernel_rfl) 65 rfl (by kernel_rfl) (by kernel_rfl) ?_
    apply go_val (pre_gm m)
    · rintro ρ wr ⟨hg, hn, hc, hf, hgl⟩
      simp only [Need, fat, List.nil_append, List.cons_append, List.getD_cons_zero, List.getD_cons_succ, Fct.hold, and_true] at hn
      refine ⟨by simp [wantP, hn], ?_⟩
      simp [execOp, hn, hc, go_sem]
      exact rfl
    apply go_val (pre_gm m)
    · rintro ρ wr ⟨hg, hn, hc, hf, hgl⟩
      simp only [Need, fat, List.nil_append, List.cons_append, List.getD_cons_zero, List.getD_cons_succ, Fct.hold, and_true] at hn
      refine ⟨by simp [wantP, hn], ?_⟩
      simp [execOp, hn, hc, go_sem]
      exact rfl
    apply go_val (pre_gm m)
    · rintro ρ wr ⟨hg, hn, hc, hf, hgl⟩
      simp only [Need, fat, List.nil_append, List.cons_append, List.getD_cons_zero, List.getD_cons_succ, Fct.hold, and_true] at hn
      refine ⟨by simp [wantP, hn], ?_⟩
      simp [execOp, hn, hc, go_sem]
      exact rfl
    apply go_val (pre_gm m)
    · rintro ρ wr ⟨hg, hn, hc, hf, hgl⟩
      simp only [Need, fat, List.nil_append, List.cons_append, List.getD_cons_zero, List.getD_cons_succ, Fct.hold, and_true] at hn
      refine ⟨by simp [wantP, hn], ?_⟩
      simp [execOp, hn, hc, go_sem]
      exact rfl
    apply go_val (pre_gm m)
    · rintro ρ wr ⟨hg, hn, hc, hf, hgl⟩
      simp only [Need, fat, List.nil_append, List.cons_append, List.getD_cons_zero, List.getD_cons_succ, Fct.hold, and_true] at hn
      have hl := And.intro (box6 (hg.nd HM.out HK.out)).1 (And.intro (box6 (hg.nd HM.out HK.out)).2.1 (box6 (hg.nd HM.out HKA.out)).2.2.2.1)
      simp only [HE.out.1] at hl
      refine ⟨by simp [wantP, hn], ?_⟩
      simp [execOp, hn, hc, hl, go_sem]
      exact rfl
    apply go_val (pre_gm m)
    · rintro ρ wr ⟨hg, hn, hc, hf, hgl⟩
      simp only [Need, fat, List.nil_append, List.cons_append, List.getD_cons_zero, List.getD_cons_succ, Fct.hold, and_true] at hn
      refine ⟨by simp [wantP, hn], ?_⟩
      simp [execOp, hn, hc, go_sem]
      exact rfl
    apply go_val (pre_gm m)
    · rintro ρ wr ⟨hg, hn, hc, hf, hgl⟩
      simp only [Need, fat, List.nil_append, List.cons_append, List.getD_cons_zero, List.getD_cons_succ, Fct.hold, and_true] at hn
      refine ⟨by simp [wantP, hn], ?_⟩
      simp [execOp, hn, hc, go_sem]
      exact rfl
    apply go_val (pre_gm m)
    · rintro ρ wr ⟨hg, hn, hc, hf, hgl⟩
      simp only [Need, fat, List.nil_append, List.cons_append, List.getD_cons_zero, List.getD_cons_succ, Fct.hold, and_true] at hn
      refine ⟨by simp [wantP, hn], ?_⟩
      simp [execOp, hn, hc, go_sem]
      exact rfl
    apply go_val (pre_gm m)
    · rintro ρ wr ⟨hg, hn, hc, hf, hgl⟩
      simp only [Need, fat, List.nil_append, List.cons_append, List.getD_cons_zero, List.getD_cons_succ, Fct.hold, and_true] at hn
      refine ⟨by simp [wantP, hn], ?_⟩
      simp [execOp, hn, hc, go_sem]
      exact rfl
    apply go_val (pre_gm m)
    · rintro ρ wr ⟨hg, hn, hc, hf, hgl⟩
      simp only [Need, fat, List.nil_append, List.cons_append, List.getD_cons_zero, List.getD_cons_succ, Fct.hold, and_true] at hn
      have hl := And.intro (box6 (hg.nd HM.out HK.out)).1 (And.intro (box6 (hg.nd HM.out HK.out)).2.1 (box6 (hg.nd HM.out HKA.out)).2.2.2.1)
      simp only [HE.out.1] at hl
      refine ⟨by simp [wantP, hn], ?_⟩
      simp [execOp, hn, hc, hl, go_sem]
      exact rfl
    apply go_val (pre_gm m)
    · rintro ρ wr ⟨hg, hn, hc, hf, hgl⟩
      simp only [Need, fat, List.nil_append, List.cons_append, List.getD_cons_zero, List.getD_cons_succ, Fct.hold, and_true] at hn
      refine ⟨by simp [wantP, hn], ?_⟩
      simp [execOp, hn, hc, go_sem]
      exact rfl
    apply go_val (pre_gm m)
    · rintro ρ wr ⟨hg, hn, hc, hf, hgl⟩
      simp only [Need, fat, List.nil_append, List.cons_append, List.getD_cons_zero, List.getD_cons_succ, Fct.hold, and_true] at hn
      refine ⟨by simp [wantP, hn], ?_⟩
      simp [execOp, hn, hc, go_sem]
      exact rfl
    apply go_val (pre_gm m)
    · rintro ρ wr ⟨hg, hn, hc, hf, hgl⟩
      simp only [Need, fat, List.nil_append, List.cons_append, List.getD_cons_zero, List.getD_cons_succ, Fct.hold, and_true] at hn
      have hl := And.intro (box6 (hg.nd HM.out HK.out)).1 (And.intro (box6 (hg.nd HM.out HK.out)).2.1 (box6 (hg.nd HM.out HKA.out)).2.2.2.1)
      simp only [HE.out.1] at hl
      refine ⟨by simp [wantP, hn], ?_⟩
      simp [execOp, hn, hc, hl, go_sem]
      exact rfl
    apply go_val (pre_gm m)
    · rintro ρ wr ⟨hg, hn, hc, hf, hgl⟩
      simp only [Need, fat, List.nil_append, List.cons_append, List.getD_cons_zero, List.getD_cons_succ, Fct.hold, and_true] at hn
      have hq : IntKind.i64.wrap (ii - n1) = ii - n1 := IntWalk.i64_in _ (by omega)
      refine ⟨by simp [wantP, hn], ?_⟩
      simp [execOp, hn, hc, go_sem, hq]
      exact rfl
    refine go_call (p := fun u w' => OL w' u (r.text.drop (i - l.text.length)) ∧ Mk m w') (stab_olm m _) ?_ ?_
    · rintro ρ wr ⟨hg, hn, hc, hf, hgl⟩
      simp only [Need, fat, List.nil_append, List.cons_append, List.getD_cons_zero, List.getD_cons_succ, Fct.hold, and_true] at hn
      refine ⟨by simp [wantP], _, _, by simp [execOp, hn, hf, hc, resolve, invoke, go_sem]; exact ⟨rfl, rfl⟩, ?_⟩
      have e : ii - n1 = ((i - l.text.length : Nat) : Int) := by have := HE.out; omega
      rw [e]
      exact HIR.out _ wr _ (hg.mk HM.out) (HR.out.gm HM.out ((Gm.drew m _).trans hg)) (by have := HE.out; omega)
    refine go_so (pre_gm m) (p := fun u w' => OL w' u (r.text.drop (i - l.text.length)) ∧ Mk m w') (stab_olm m _) ?_ ?_
    · rintro ρ wr ⟨hg, hn, hc, hf, hgl⟩
      simp only [Need, fat, List.nil_append, List.cons_append, List.getD_cons_zero, List.getD_cons_succ, Fct.hold, and_true] at hn
      exact ⟨by simp [wantP], _, by simp [execOp, go_sem], hn⟩
    intro w2 hk2
    simp only [Post, List.nil_append, List.cons_append, Act.put, List.setIfInBounds_toArray, List.set_cons_zero, List.set_cons_succ]
    intro u63 h63 u4 h4
    clear h63
    have H4 := Lib.hid (And.intro h4 hk2)
    clear h4 hk2
    rename_i K hK
    refine hK _ _ ?_
    clear hK K
    obtain ⟨p4, rfl⟩ := H4.out.1.1.ptr
    go_wp2_with fail
    go_ret
    refine ⟨_, rfl, ⟨?_, H4.out.1.2⟩, (Gm.drew m w).trans H4.out.2⟩
    have := H4.out.1.1
    simp only [Tr.text]
    rw [List.drop_append, List.drop_of_length_le (by have := HE.out; omega), List.nil_append]
    exact this
  · go_enter Try.func28, Try.ntmps28
    go_wp2_with fail
    refine hlen.mono ?_
    rintro e w1 ⟨rfl, rfl⟩
    go_wp2_with fail
    refine (isLeaf_node _ l r w HV.out).mono ?_
    rintro e w1 ⟨rfl, rfl⟩
    go_wp2_with fail
    refine wp_region_go (Gm m) (pre_gm m) [([(0, none)], none), ([(0, none)], none), ([(1, none)], none), ([(54, some 2)], none), ([(55, some 3)], none), ([(56, some 4)], none), ([(2, none)], none), ([(53, some 1), (57, some 5), (58, some 6)], none), ([(1, none)], none), ([(60, some 8)], none), ([(61, some 9)], none), ([(62, some 10)], none), ([(52, some 0), (59, some 7), (63, some 11)], none), ([(64, some 12)], none)] (by kernel_rfl) 65 rfl (by kernel_rfl) (by kernel_rfl) ?_
    apply go_val (pre_gm m)
    · rintro ρ wr ⟨hg, hn, hc, hf, hgl⟩
      simp only [Need, fat, List.nil_append, List.cons_append, List.getD_cons_zero, List.getD_cons_succ, Fct.hold, and_true] at hn
      refine ⟨by simp [wantP, hn], ?_⟩
      simp [execOp, hn, hc, go_sem]
      exact rfl
    apply go_val (pre_gm m)
    · rintro ρ wr ⟨hg, hn, hc, hf, hgl⟩
      simp only [Need, fat, List.nil_append, List.cons_append, List.getD_cons_zero, List.getD_cons_succ, Fct.hold, and_true] at hn
      refine ⟨by simp [wantP, hn], ?_⟩
      simp [execOp, hn, hc, go_sem]
      exact rfl
    apply go_val (pre_gm m)
    · rintro ρ wr ⟨hg, hn, hc, hf, hgl⟩
      simp only [Need, fat, List.nil_append, List.cons_append, List.getD_cons_zero, List.getD_cons_succ, Fct.hold, and_true] at hn
      refine ⟨by simp [wantP, hn], ?_⟩
      simp [execOp, hn, hc, go_sem]
      exact rfl
    apply go_val (pre_gm m)
    · rintro ρ wr ⟨hg, hn, hc, hf, hgl⟩
      simp only [Need, fat, List.nil_append, List.cons_append, List.getD_cons_zero, List.getD_cons_succ, Fct.hold, and_true] at hn
      refine ⟨by simp [wantP, hn], ?_⟩
      simp [execOp, hn, hc, go_sem]
      exact rfl
    apply go_val (pre_gm m)
    · rintro ρ wr ⟨hg, hn, hc, hf, hgl⟩
      simp only [Need, fat, List.nil_append, List.cons_append, List.getD_cons_zero, List.getD_cons_succ, Fct.hold, and_true] at hn
      refine ⟨by simp [wantP, hn], ?_⟩
      simp [execOp, hn, hc, go_sem]
      exact rfl
    apply go_val (pre_gm m)
    · rintro ρ wr ⟨hg, hn, hc, hf, hgl⟩
      simp only [Need, fat, List.nil_append, List.cons_append, List.getD_cons_zero, List.getD_cons_succ, Fct.hold, and_true] at hn
      have hl := And.intro (box6 (hg.nd HM.out HK.out)).1 (And.intro (box6 (hg.nd HM.out HK.out)).2.1 (box6 (hg.nd HM.out HKA.out)).2.2.2.1)
      simp only [HE.out.1] at hl
      refine ⟨by simp [wantP, hn], ?_⟩
      simp [execOp, hn, hc, hl, go_sem]
      exact rfl
    apply go_val (pre_gm m)
    · rintro ρ wr ⟨hg, hn, hc, hf, hgl⟩
      simp only [Need, fat, List.nil_append, List.cons_append, List.getD_cons_zero, List.getD_cons_succ, Fct.hold, and_true] at hn
      refine ⟨by simp [wantP, hn], ?_⟩
      simp [execOp, hn, hc, go_sem]
      exact rfl
    refine go_call (p := fun u w' => OL w' u (l.text.drop i) ∧ Mk m w') (stab_olm m _) ?_ ?_
    · rintro ρ wr ⟨hg, hn, hc, hf, hgl⟩
      simp only [Need, fat, List.nil_append, List.cons_append, List.getD_cons_zero, List.getD_cons_succ, Fct.hold, and_true] at hn
      refine ⟨by simp [wantP], _, _, by simp [execOp, hn, hf, hc, resolve, invoke, go_sem]; exact ⟨rfl, rfl⟩, ?_⟩
      have e : ii = (i : Int) := by have := HE.out; omega
      rw [e]
      exact HIL.out _ wr _ (hg.mk HM.out) (HL.out.gm HM.out ((Gm.drew m _).trans hg)) (by have := HE.out; omega)
    apply go_val (pre_gm m)
    · rintro ρ wr ⟨hg, hn, hc, hf, hgl⟩
      simp only [Need, fat, List.nil_append, List.cons_append, List.getD_cons_zero, List.getD_cons_succ, Fct.hold, and_true] at hn
      refine ⟨by simp [wantP, hn], ?_⟩
      simp [execOp, hn, hc, go_sem]
      exact rfl
    apply go_val (pre_gm m)
    · rintro ρ wr ⟨hg, hn, hc, hf, hgl⟩
      simp only [Need, fat, List.nil_append, List.cons_append, List.getD_cons_zero, List.getD_cons_succ, Fct.hold, and_true] at hn
      refine ⟨by simp [wantP, hn], ?_⟩
      simp [execOp, hn, hc, go_sem]
      exact rfl
    apply go_val (pre_gm m)
    · rintro ρ wr ⟨hg, hn, hc, hf, hgl⟩
      simp only [Need, fat, List.nil_append, List.cons_append, List.getD_cons_zero, List.getD_cons_succ, Fct.hold, and_true] at hn
      refine ⟨by simp [wantP, hn], ?_⟩
      simp [execOp, hn, hc, go_sem]
      exact rfl
    apply go_val (pre_gm m)
    · rintro ρ wr ⟨hg, hn, hc, hf, hgl⟩
      simp only [Need, fat, List.nil_append, List.cons_append, List.getD_cons_zero, List.getD_cons_succ, Fct.hold, and_true] at hn
      have hl := And.intro (box6 (hg.nd HM.out HK.out)).1 (And.intro (box6 (hg.nd HM.out HK.out)).2.1 (box6 (hg.nd HM.out HKA.out)).2.2.2.1)
      simp only [HE.out.1] at hl
      refine ⟨by simp [wantP, hn], ?_⟩
      simp [execOp, hn, hc, hl, go_sem]
      exact rfl
    refine go_call (p := fun u w' => OL w' u (l.text.drop i ++ r.text) ∧ Mk m w') (stab_olm m _) ?_ ?_
    · rintro ρ wr ⟨hg, hn, hc, hf, hgl⟩
      simp only [Need, fat, List.nil_append, List.cons_append, List.getD_cons_zero, List.getD_cons_succ, Fct.hold, and_true] at hn
      obtain ⟨hn1, hn3, hn2⟩ := hn
      have HN3 := Lib.hid hn3
      clear hn3
      refine ⟨by simp [wantP], _, _, by simp [execOp, hn1, hn2, hf, hc, resolve, invoke, go_sem]; exact ⟨rfl, rfl⟩, ?_⟩
      exact join_any m _ _ _ _ wr (hg.mk HM.out) HN3.out.1 ((OL.of HR.out HO.out.2.1).gm HM.out ((Gm.drew m _).trans hg)) (by have := HN.out; simp only [Tr.text, List.length_append] at this; rw [List.length_drop]; omega)
    refine go_so (pre_gm m) (p := fun u w' => OL w' u (l.text.drop i ++ r.text) ∧ Mk m w') (stab_olm m _) ?_ ?_
    · rintro ρ wr ⟨hg, hn, hc, hf, hgl⟩
      simp only [Need, fat, List.nil_append, List.cons_append, List.getD_cons_zero, List.getD_cons_succ, Fct.hold, and_true] at hn
      exact ⟨by simp [wantP], _, by simp [execOp, go_sem], hn⟩
    intro w2 hk2
    simp only [Post, List.nil_append, List.cons_append, Act.put, List.setIfInBounds_toArray, List.set_cons_zero, List.set_cons_succ]
    intro u63 h63 u64 h64 u4 h4
    clear h63 h64
    have H4 := Lib.hid (And.intro h4 hk2)
    clear h4 hk2
    rename_i K hK
    refine hK _ _ ?_
    clear hK K
    obtain ⟨p4, rfl⟩ := H4.out.1.1.ptr
    go_wp2_with fail
    go_ret
    refine ⟨_, rfl, ⟨?_, H4.out.1.2⟩, (Gm.drew m w).trans H4.out.2⟩
    have := H4.out.1.1
    simp only [Tr.text]
    rw [List.drop_append_of_le_length (by have := HE.out; omega)]
    exact this
theorem behind_leaf (m : Nat) (s : List UInt8) (hok : (Tr.leaf s).Ok) : CutTo 28 (fun i s => s.drop i) m (.leaf s) := by
  intro v w i hm h hi
  have HV := Lib.hid h
  obtain ⟨k, rfl, hk⟩ := id h
  obtain ⟨-, -, c2, -⟩ := box6 hk
  have HM := Lib.hid hm
  have HO := Lib.hid hok
  have hlen := len_any _ _ w (OL.of h hok)
  simp only [Tr.text] at hlen
  have z1 := hok.1
  have z2 := hok.2
  clear hk h hm hok
  unfold ptr at *
  by_cases h0 : i = 0
  · subst h0
    go_enter Try.func28, Try.ntmps28
    go_wp2_with fail
    go_ret
    exact ⟨_, rfl, ⟨OL.of HV.out HO.out, HM.out⟩, Gm.refl _ _⟩
  have h0' : ¬ (i : Int) ≤ 0 := by omega
  by_cases h1 : s.length ≤ i
  · go_enter Try.func28, Try.ntmps28
    go_wp2_with fail
    refine hlen.mono ?_
    rintro e w1 ⟨rfl, rfl⟩
    go_wp2_with fail
    go_ret
    refine ⟨_, rfl, ⟨?_, HM.out⟩, Gm.refl _ _⟩
    have := OL.of HV.out HO.out
    have he : (Tr.leaf s).text.length ≤ i := h1
    simp only []
    rw [List.drop_of_length_le he]
    exact OL.nil _
  have h1' : ¬ (i : Int) ≥ s.length := by omega
  go_enter Try.func28, Try.ntmps28
  go_wp2_with fail
  refine hlen.mono ?_
  rintro e w1 ⟨rfl, rfl⟩
  go_wp2_with fail
  refine (isLeaf_leaf _ s w HV.out).mono ?_
  rintro e w1 ⟨rfl, rfl⟩
  go_wp2_with fail
  rw [ba_drop]
  refine (leaf_m m _ w HM.out).mono ?_
  rintro e w4 ⟨u4, rfl, h4, hk4⟩
  have H4 := Lib.hid (And.intro h4 hk4)
  clear h4 hk4
  obtain ⟨k4, rfl, -⟩ := id H4.out.1.1
  unfold ptr
  go_wp2_with fail
  go_ret
  exact ⟨_, rfl, ⟨OL.of H4.out.1.1 (by show 1 ≤ (s.drop i).length ∧ (s.drop i).length ≤ 64; rw [List.length_drop]; omega), H4.out.1.2⟩, H4.out.2⟩
theorem behind_t (m : Nat) : ∀ t : Tr, t.Ok → t.text.length ≤ 90000000000000 → CutTo 28 (fun i s => s.drop i) m t
  | .leaf s, h, _ => behind_leaf m s h
  | .node l r, h, hn => behind_node m l r h hn (behind_t m l h.1 (by simp only [Tr.text, List.length_append] at hn; omega)) (behind_t m r h.2.1 (by simp only [Tr.text, List.length_append] at hn; omega))
end Go.Proofs.Ytdobbindilibjaa
