/-
  What rope.pour does, on values and memory.
-/
import Derived.Test.YtdobbindilibjaaSmall
import Derived.Test.YtdobbindilibjaaReg
import Derived.Lib.AppendStr
set_option linter.unusedSimpArgs false
namespace Go.Proofs.Ytdobbindilibjaa.Kit
open Go Go.RowKit
/-- A row that was made behind W0 reads as xs. -/
def Own (W0 w : World) (v : Value) (xs : List UInt8) : Prop := w.ownsRow W0.heap.size 5 1 v xs.length (xs.map bv)
theorem Own.kept {W0 w w' : World} {v : Value} {xs : List UInt8} (h : Own W0 w v xs) (k : Kept w w') : Own W0 w' v xs := by
  refine ⟨h.1, h.2.imp id ?_⟩
  rintro ⟨g, cap, cur, h1, h2, h3, h4⟩
  exact ⟨g, cap, cur, h1, h2, k.blk h3, h4⟩
theorem Own.form {W0 w : World} {v : Value} {xs : List UInt8} (h : Own W0 w v xs) : ∃ A n c, v = .slice A n c := by
  rcases h.2 with ⟨rfl, _⟩ | ⟨g, cap, cur, rfl, _⟩
  · exact ⟨_, _, _, rfl⟩
  · exact ⟨_, _, _, rfl⟩
theorem ba_sub (s : List UInt8) (i j : Nat) : (⟨s.toArray⟩ : ByteArray).extract i j = ⟨((s.take j).drop i).toArray⟩ := by
  apply ByteArray.ext
  simp [ByteArray.data_extract, List.drop_take]
theorem wp_app_run {P : Program} {w : World} {o : Oper} {a : Act} {K : Act → World → Prop} {Q : Exit → Act → World → Prop} (s x : Operand) (t tn : TypeId)
    (ho : o.op = .call { callee := .builtin .append, args := #[s, x], argTypes := #[t, tn] }) (vs vx : Value) (hs : a.eval s = vs) (hx : a.eval x = vx) (v' : Value) (w' : World)
    (hr : (Builtin.append_ #[t, tn] o.type #[vs, vx]).run P w = .ok v' w') (h : K (a.put o.dst v') w') : o.wp P a w K Q := by
  unfold Oper.wp execOp
  simp only [ho, resolve, invoke, builtin, Sem.run_bind, Sem.run_pure, Result.andThen_ok, List.map_toArray, List.map_cons, List.map_nil, hs, hx, hr]
  exact h
theorem str_bv (l : List UInt8) : Lib.strCells ⟨l.toArray⟩ = l.map bv := by
  simp [Lib.strCells, bv]
theorem Own.step {W0 w w' : World} {v : Value} {xs : List UInt8} (h : Own W0 w v xs) (hk : Kept W0 w) (hg : w.grownBy w' v.ownBlock) : Kept W0 w' :=
  Below.grown hk hg hk.size (fun k e => (World.ownsRow.lt h k e).1)
end Go.Proofs.Ytdobbindilibjaa.Kit
namespace Go.Proofs.Ytdobbindilibjaa
open Go Go.RowKit Kit
theorem infoB : (Try.prog.info? 5).map (fun i => (i.zero, i.size, i.bytes)) = some (some (.int .u8 0), 1, 1) := by kernel_rfl
def Pours (W0 : World) (t : Tr) : Prop := ∀ (v out : Value) (xs : List UInt8) (f g : Int) (w : World), At W0 v t → Kept W0 w → Own W0 w out xs → -1000000000000000 ≤ f - t.text.length → f ≤ 100000000000000 → -1000000000000000 ≤ g - t.text.length → g ≤ 100000000000000 → xs.length + t.text.length ≤ 100000000000000 →
  Calls Try.prog 22 #[v, out, .int .i64 f, .int .i64 g] w fun e w' => ∃ u, e = .returned u ∧ Own W0 w' u (xs ++ (t.text.take g.toNat).drop f.toNat) ∧ Kept W0 w'
/-- Nothing is to be poured. -/
theorem pour_none (W0 : World) (t : Tr) (v out : Value) (xs : List UInt8) (f g : Int) (w : World) (h : At W0 v t) (hk : Kept W0 w) (ho : Own W0 w out xs) (hz : g ≤ f ∨ g ≤ 0 ∨ (t.text.length : Int) ≤ f) :
    Calls Try.prog 22 #[v, out, .int .i64 f, .int .i64 g] w fun e w' => ∃ u, e = .returned u ∧ Own W0 w' u (xs ++ (t.text.take g.toNat).drop f.toNat) ∧ Kept W0 w' := by
  have e : (t.text.take g.toNat).drop f.toNat = [] := by
    apply List.drop_of_length_le
    rw [List.length_take]
    omega
  rw [e, List.append_nil]
  obtain ⟨A, n, c, rfl⟩ := ho.form
  have H := Lib.hid (And.intro ho hk)
  obtain ⟨k, _, _, _, rfl, hb⟩ := (h.kept hk).block
  obtain ⟨-, -, -, c3, -⟩ := box6 hb
  clear hb h hk ho e
  unfold ptr
  generalize t.text.length = q at *
  by_cases h1 : g ≤ f
  · go_enter Try.func22, Try.ntmps22
    go_wp2_with fail
    go_ret
    exact ⟨_, rfl, H.out.1, H.out.2⟩
  by_cases h2 : g ≤ 0
  · go_enter Try.func22, Try.ntmps22
    go_wp2_with fail
    go_ret
    exact ⟨_, rfl, H.out.1, H.out.2⟩
  have h3 : (q : Int) ≤ f := by omega
  clear hz
  go_enter Try.func22, Try.ntmps22
  go_wp2_with fail
  go_ret
  exact ⟨_, rfl, H.out.1, H.out.2⟩
set_option maxHeartbeats 4000000 in
theorem pour_leaf (W0 : World) (s : List UInt8) : Pours W0 (.leaf s) := by
  intro v out xs f g w h hk ho hf1 hf2 hg1 hg2 hn
  by_cases hz : g ≤ f ∨ g ≤ 0 ∨ (s.length : Int) ≤ f
  · exact pour_none W0 _ v out xs f g w h hk ho hz
  have h1 : ¬ g ≤ f := by omega
  have h2 : ¬ g ≤ 0 := by omega
  have h3 : ¬ (s.length : Int) ≤ f := by omega
  clear hz
  have hleaf := isLeaf_leaf v s w (h.kept hk)
  simp only [Tr.text] at hn ⊢
  obtain ⟨A, n, c, rfl⟩ := ho.form
  have HO := Lib.hid ho
  have HK := Lib.hid hk
  obtain ⟨k, rfl, hb⟩ := h.kept hk
  obtain ⟨-, -, c2, c3, -⟩ := box6 hb
  obtain ⟨i0, hi, hz0, hz1, hz2⟩ := info_parts infoB
  obtain ⟨lo, hlo⟩ : ∃ lo : Nat, max f 0 = (lo : Int) := ⟨(max f 0).toNat, by omega⟩
  obtain ⟨hi', hhi⟩ : ∃ hi : Nat, min g s.length = (hi : Int) := ⟨(min g s.length).toNat, by omega⟩
  have q1 : (lo : Int) ≤ hi' := by omega
  have q2 : (hi' : Int) ≤ s.length := by omega
  have et : (s.take g.toNat).drop f.toNat = (s.take hi').drop lo := by
    have e1 : f.toNat = lo := by omega
    rw [e1]
    by_cases hgl : g ≤ s.length
    · rw [show g.toNat = hi' from by omega]
    · rw [List.take_of_length_le (by omega), List.take_of_length_le (by omega)]
  rw [et]
  have HLO := Lib.hid (And.intro hlo hhi)
  have HN := Lib.hid hn
  clear hb h hk ho et hlo hhi hn
  unfold ptr at *
  go_enter Try.func22, Try.ntmps22
  go_wp2_with fail
  refine hleaf.mono ?_
  rintro e w1 ⟨rfl, rfl⟩
  clear hleaf
  go_wp2_with fail
  refine wp_region_two' (by simp only [List.dropLast_cons_cons, List.dropLast_singleton]; exact rfl) (by simp only [List.getLast?_cons_cons, List.getLast?_singleton]; exact rfl) (by simp only [List.dropLast_cons_cons, List.dropLast_singleton, List.getLast?_cons_cons, List.getLast?_singleton]; exact rfl) Kept pre_kept [([(1, none)], none), ([(0, none)], none), ([(32, some 1)], none), ([(33, some 2)], none), ([(34, some 3)], none), ([(2, none)], none), ([(36, some 5)], none), ([(3, none)], none), ([(0, none)], none), ([(39, some 8)], none), ([(40, some 9)], none), ([(41, some 10)], none), ([(38, some 7), (42, some 11)], none), ([(35, some 4), (37, some 6), (43, some 12)], none), ([(31, some 0), (44, some 13)], none), ([(45, some 14)], none)] (by kernel_rfl) 78 rfl (by kernel_rfl) (by kernel_rfl) rfl rfl ?_
  apply go_val pre_kept
  · rintro ρ wr ⟨hg, hn, hc, hf, hgl⟩
    simp only [Need, fat, List.nil_append, List.cons_append, List.getD_cons_zero, List.getD_cons_succ, Fct.hold, and_true] at hn
    refine ⟨by simp [wantP, hn], ?_⟩
    simp [execOp, hn, hc, go_sem]
    exact rfl
  apply go_val pre_kept
  · rintro ρ wr ⟨hg, hn, hc, hf, hgl⟩
    simp only [Need, fat, List.nil_append, List.cons_append, List.getD_cons_zero, List.getD_cons_succ, Fct.hold, and_true] at hn
    refine ⟨by simp [wantP, hn], ?_⟩
    simp [execOp, hn, hc, go_sem]
    exact rfl
  apply go_val pre_kept
  · rintro ρ wr ⟨hg, hn, hc, hf, hgl⟩
    simp only [Need, fat, List.nil_append, List.cons_append, List.getD_cons_zero, List.getD_cons_succ, Fct.hold, and_true] at hn
    refine ⟨by simp [wantP, hn], ?_⟩
    simp [execOp, hn, hc, go_sem]
    exact rfl
  apply go_val pre_kept
  · rintro ρ wr ⟨hg, hn, hc, hf, hgl⟩
    simp only [Need, fat, List.nil_append, List.cons_append, List.getD_cons_zero, List.getD_cons_succ, Fct.hold, and_true] at hn
    refine ⟨by simp [wantP, hn], ?_⟩
    simp [execOp, hn, hc, go_sem]
    exact rfl
  apply go_val pre_kept
  · rintro ρ wr ⟨hg, hn, hc, hf, hgl⟩
    simp only [Need, fat, List.nil_append, List.cons_append, List.getD_cons_zero, List.getD_cons_succ, Fct.hold, and_true] at hn
    have hl := And.intro (hg.cell c2) (hg.cell c3)
    refine ⟨by simp [wantP, hn], ?_⟩
    simp [execOp, hn, hc, hl, go_sem]
    exact rfl
  apply go_val pre_kept
  · rintro ρ wr ⟨hg, hn, hc, hf, hgl⟩
    simp only [Need, fat, List.nil_append, List.cons_append, List.getD_cons_zero, List.getD_cons_succ, Fct.hold, and_true] at hn
    refine ⟨by simp [wantP, hn], ?_⟩
    simp [execOp, hn, hc, go_sem]
    exact rfl
  apply go_val (x := .int .i64 (lo : Int)) pre_kept
  · rintro ρ wr ⟨hg, hn, hc, hf, hgl⟩
    simp only [Need, fat, List.nil_append, List.cons_append, List.getD_cons_zero, List.getD_cons_succ, Fct.hold, and_true] at hn
    refine ⟨by simp [wantP, hn], ?_⟩
    rw [← HLO.out.1]
    simp [execOp, hn, hc, resolve, invoke, builtin, go_sem]
    first | done | (congr 1; omega) | (split <;> (first | omega | (congr 1; omega) | (simp; omega)))
  apply go_val pre_kept
  · rintro ρ wr ⟨hg, hn, hc, hf, hgl⟩
    simp only [Need, fat, List.nil_append, List.cons_append, List.getD_cons_zero, List.getD_cons_succ, Fct.hold, and_true] at hn
    refine ⟨by simp [wantP, hn], ?_⟩
    simp [execOp, hn, hc, go_sem]
    exact rfl
  apply go_val pre_kept
  · rintro ρ wr ⟨hg, hn, hc, hf, hgl⟩
    simp only [Need, fat, List.nil_append, List.cons_append, List.getD_cons_zero, List.getD_cons_succ, Fct.hold, and_true] at hn
    refine ⟨by simp [wantP, hn], ?_⟩
    simp [execOp, hn, hc, go_sem]
    exact rfl
  apply go_val pre_kept
  · rintro ρ wr ⟨hg, hn, hc, hf, hgl⟩
    simp only [Need, fat, List.nil_append, List.cons_append, List.getD_cons_zero, List.getD_cons_succ, Fct.hold, and_true] at hn
    refine ⟨by simp [wantP, hn], ?_⟩
    simp [execOp, hn, hc, go_sem]
    exact rfl
  apply go_val pre_kept
  · rintro ρ wr ⟨hg, hn, hc, hf, hgl⟩
    simp only [Need, fat, List.nil_append, List.cons_append, List.getD_cons_zero, List.getD_cons_succ, Fct.hold, and_true] at hn
    refine ⟨by simp [wantP, hn], ?_⟩
    simp [execOp, hn, hc, go_sem]
    exact rfl
  apply go_val pre_kept
  · rintro ρ wr ⟨hg, hn, hc, hf, hgl⟩
    simp only [Need, fat, List.nil_append, List.cons_append, List.getD_cons_zero, List.getD_cons_succ, Fct.hold, and_true] at hn
    have hl := And.intro (hg.cell c2) (hg.cell c3)
    refine ⟨by simp [wantP, hn], ?_⟩
    simp [execOp, hn, hc, hl, go_sem]
    exact rfl
  apply go_val (x := .int .i64 (hi' : Int)) pre_kept
  · rintro ρ wr ⟨hg, hn, hc, hf, hgl⟩
    simp only [Need, fat, List.nil_append, List.cons_append, List.getD_cons_zero, List.getD_cons_succ, Fct.hold, and_true] at hn
    refine ⟨by simp [wantP, hn], ?_⟩
    rw [← HLO.out.2]
    simp [execOp, hn, hc, resolve, invoke, builtin, go_sem]
    first | done | (congr 1; omega) | (split <;> (first | omega | (congr 1; omega) | (simp; omega)))
  apply go_val (x := .string ⟨((s.take hi').drop lo).toArray⟩) pre_kept
  · rintro ρ wr ⟨hg, hn, hc, hf, hgl⟩
    simp only [Need, fat, List.nil_append, List.cons_append, List.getD_cons_zero, List.getD_cons_succ, Fct.hold, and_true] at hn
    refine ⟨by simp [wantP, hn], ?_⟩
    rw [← ba_sub]
    obtain ⟨n1, n2, n3⟩ := hn
    unfold execOp
    go_simp
  intro w2 hk2
  simp only [Post, List.nil_append, List.cons_append, Act.put, List.setIfInBounds_toArray, List.set_cons_zero, List.set_cons_succ]
  have HK2 := Lib.hid (HK.out.trans ((Kept.drew (Kept.refl _)).trans hk2))
  have HO2 := Lib.hid (HO.out.kept ((Kept.drew (Kept.refl _)).trans hk2))
  clear hk2 c2 c3
  rename_i K hK
  have hlen : ((s.take hi').drop lo).length = hi' - lo := by simp; omega
  obtain ⟨v', w', hr, o2, g2, -⟩ := Lib.run_append_own_string (P := Try.prog) (w := w2) W0.heap.size 22 9 22 5 i0 Try.underlying22 Try.underlying9 hi hz0 hz1 hz2 _ _ _ HO2.out ⟨((s.take hi').drop lo).toArray⟩
    (by have := HN.out; simp [ByteArray.size, hlen, maxLen]; omega) (by have := HN.out; simp [ByteArray.size]; omega) HK2.out.size
  refine wp_app_run (.tmp 31) (.tmp 44) 22 9 rfl _ _ rfl rfl v' w' hr ?_
  have O2 : Hid (Own W0 w' v' (xs ++ (s.take hi').drop lo)) := Lib.hid (by
    unfold Own
    rw [str_bv] at o2
    simpa [ByteArray.size] using o2)
  have K2 := Lib.hid (HO2.out.step HK2.out g2)
  clear hr o2 g2
  obtain ⟨A', n', c', rfl⟩ := O2.out.form
  simp only [Act.put, List.setIfInBounds_toArray, List.set_cons_zero, List.set_cons_succ]
  unfold Oper.wp execOp
  go_simp
  refine hK _ _ ?_
  clear hK K
  go_wp2_with fail
  go_ret
  exact ⟨_, rfl, O2.out, K2.out⟩
/-- What two parts give. -/
theorem part_app (l r : List UInt8) (f g : Int) : ((l ++ r).take g.toNat).drop f.toNat = (l.take g.toNat).drop f.toNat ++ (r.take (g - l.length).toNat).drop (f - l.length).toNat := by
  rw [List.take_append, List.drop_append, List.length_take]
  congr 1
  rw [show (g - (l.length : Int)).toNat = g.toNat - l.length from by omega]
  by_cases h : l.length ≤ g.toNat
  · rw [show f.toNat - min g.toNat l.length = (f - (l.length : Int)).toNat from by omega]
  · rw [show g.toNat - l.length = 0 from by omega]; simp
set_option maxHeartbeats 4000000 in
theorem pour_node (W0 : World) (l r : Tr) (il : Pours W0 l) (ir : Pours W0 r) : Pours W0 (.node l r) := by
  intro v out xs f g w h hk ho hf1 hf2 hg1 hg2 hn
  by_cases hz : g ≤ f ∨ g ≤ 0 ∨ ((Tr.node l r).text.length : Int) ≤ f
  · exact pour_none W0 _ v out xs f g w h hk ho hz
  simp only [Tr.text, List.length_append] at hz hn hf1 hg1 ⊢
  have HI := Lib.hid (And.intro il ir)
  have h1 : ¬ g ≤ f := by omega
  have h2 : ¬ g ≤ 0 := by omega
  have h3 : ¬ ((l.text.length : Int) + (r.text.length : Int) ≤ f) := by omega
  clear hz il ir
  have hleaf := isLeaf_node v l r w (h.kept hk)
  obtain ⟨A, n, c, rfl⟩ := ho.form
  have HO := Lib.hid ho
  have HK := Lib.hid hk
  obtain ⟨k, a, b, rfl, hb, ha, hr⟩ := h
  have HB := Lib.hid hb
  obtain ⟨c0, c1, -, c3, -⟩ := box6 (hk.blk hb)
  obtain ⟨ka, _, _, _, rfl, hka⟩ := ha.block
  obtain ⟨kr, _, _, _, rfl, -⟩ := hr.block
  have HKA := Lib.hid hka
  have HA := Lib.hid (And.intro ha hr)
  have z1 : (0 : Int) ≤ (l.text.length : Int) := by omega
  have z2 : (0 : Int) ≤ (r.text.length : Int) := by omega
  have z3 : (xs.length : Int) + ((l.text.length : Int) + (r.text.length : Int)) ≤ 100000000000000 := by omega
  rw [Int.natCast_add] at c3 hf1 hg1
  rw [part_app]
  have HP := Lib.hid z3
  generalize hn1 : (l.text.length : Int) = n1 at *
  generalize hn2 : (r.text.length : Int) = n2 at *
  have HE := Lib.hid (And.intro hn1 hn2)
  have hL : ((l.text.take g.toNat).drop f.toNat).length ≤ l.text.length := by simp; omega
  have HL := Lib.hid hL
  generalize hT1 : (l.text.take g.toNat).drop f.toNat = T1 at *
  generalize hT2 : (r.text.take (g - n1).toNat).drop (f - n1).toNat = T2 at *
  have HT := Lib.hid (And.intro hT1 hT2)
  clear hb ha hr hka hk ho hn1 hn2 hT1 hT2 hL
  unfold ptr at *
  go_enter Try.func22, Try.ntmps22
  go_wp2_with fail
  refine hleaf.mono ?_
  rintro e w1 ⟨rfl, rfl⟩
  clear hleaf
  go_wp2_with fail
  refine (HI.out.1 _ _ xs f g w HA.out.1 HK.out HO.out (by have := HE.out; omega) hf2 (by have := HE.out; omega) hg2 (by have := HE.out; have := HP.out; omega)).mono ?_
  rintro e w1 ⟨u1, rfl, o1, k1⟩
  rw [HT.out.1] at o1
  obtain ⟨A', n', c', rfl⟩ := o1.form
  have O1 := Lib.hid (And.intro o1 k1)
  clear o1 k1 c0 c1 c3
  go_wp2_with fail
  refine wp_region_two' (by simp only [List.dropLast_cons_cons, List.dropLast_singleton]; exact rfl) (by simp only [List.getLast?_cons_cons, List.getLast?_singleton]; exact rfl) (by simp only [List.dropLast_cons_cons, List.dropLast_singleton, List.getLast?_cons_cons, List.getLast?_singleton]; exact rfl) Kept pre_kept [([(0, none)], none), ([(54, some 0)], none), ([(55, some 1)], none), ([(56, some 2)], none), ([(1, none)], none), ([(2, none)], none), ([(0, none)], none), ([(60, some 6)], none), ([(61, some 7)], none), ([(62, some 8)], none), ([(63, some 9)], none), ([(64, some 10)], none), ([(65, some 11)], none), ([(59, some 5), (66, some 12)], none), ([(3, none)], none), ([(0, none)], none), ([(69, some 15)], none), ([(70, some 16)], none), ([(71, some 17)], none), ([(72, some 18)], none), ([(73, some 19)], none), ([(74, some 20)], none), ([(68, some 14), (75, some 21)], none), ([(57, some 3), (58, some 4), (67, some 13), (76, some 22)], none), ([(77, some 23)], none)] (by kernel_rfl) 78 rfl (by kernel_rfl) (by kernel_rfl) rfl rfl ?_
  apply go_val pre_kept
  · rintro ρ wr ⟨hg, hn, hc, hf, hgl⟩
    simp only [Need, fat, List.nil_append, List.cons_append, List.getD_cons_zero, List.getD_cons_succ, Fct.hold, and_true] at hn
    refine ⟨by simp [wantP, hn], ?_⟩
    simp [execOp, hn, hc, go_sem]
    exact rfl
  apply go_val pre_kept
  · rintro ρ wr ⟨hg, hn, hc, hf, hgl⟩
    simp only [Need, fat, List.nil_append, List.cons_append, List.getD_cons_zero, List.getD_cons_succ, Fct.hold, and_true] at hn
    refine ⟨by simp [wantP, hn], ?_⟩
    simp [execOp, hn, hc, go_sem]
    exact rfl
  apply go_val pre_kept
  · rintro ρ wr ⟨hg, hn, hc, hf, hgl⟩
    simp only [Need, fat, List.nil_append, List.cons_append, List.getD_cons_zero, List.getD_cons_succ, Fct.hold, and_true] at hn
    refine ⟨by simp [wantP, hn], ?_⟩
    simp [execOp, hn, hc, go_sem]
    exact rfl
  apply go_val pre_kept
  · rintro ρ wr ⟨hg, hn, hc, hf, hgl⟩
    simp only [Need, fat, List.nil_append, List.cons_append, List.getD_cons_zero, List.getD_cons_succ, Fct.hold, and_true] at hn
    have hx := O1.out.2.trans ((Kept.drew (Kept.refl _)).trans hg)
    have hl := And.intro (box6 (hx.blk HB.out)).1 (And.intro (box6 (hx.blk HB.out)).2.1 (box6 (hx.blk HKA.out)).2.2.2.1)
    simp only [HE.out.1] at hl
    refine ⟨by simp [wantP, hn], ?_⟩
    simp [execOp, hn, hc, hl, go_sem]
    exact rfl
  apply go_val pre_kept
  · rintro ρ wr ⟨hg, hn, hc, hf, hgl⟩
    simp only [Need, fat, List.nil_append, List.cons_append, List.getD_cons_zero, List.getD_cons_succ, Fct.hold, and_true] at hn
    refine ⟨by simp [wantP, hn], ?_⟩
    simp [execOp, hn, hc, go_sem]
    exact rfl
  apply go_val pre_kept
  · rintro ρ wr ⟨hg, hn, hc, hf, hgl⟩
    simp only [Need, fat, List.nil_append, List.cons_append, List.getD_cons_zero, List.getD_cons_succ, Fct.hold, and_true] at hn
    refine ⟨by simp [wantP, hn], ?_⟩
    simp [execOp, hn, hc, go_sem]
    exact rfl
  apply go_val pre_kept
  · rintro ρ wr ⟨hg, hn, hc, hf, hgl⟩
    simp only [Need, fat, List.nil_append, List.cons_append, List.getD_cons_zero, List.getD_cons_succ, Fct.hold, and_true] at hn
    refine ⟨by simp [wantP, hn], ?_⟩
    simp [execOp, hn, hc, go_sem]
    exact rfl
  apply go_val pre_kept
  · rintro ρ wr ⟨hg, hn, hc, hf, hgl⟩
    simp only [Need, fat, List.nil_append, List.cons_append, List.getD_cons_zero, List.getD_cons_succ, Fct.hold, and_true] at hn
    refine ⟨by simp [wantP, hn], ?_⟩
    simp [execOp, hn, hc, go_sem]
    exact rfl
  apply go_val pre_kept
  · rintro ρ wr ⟨hg, hn, hc, hf, hgl⟩
    simp only [Need, fat, List.nil_append, List.cons_append, List.getD_cons_zero, List.getD_cons_succ, Fct.hold, and_true] at hn
    refine ⟨by simp [wantP, hn], ?_⟩
    simp [execOp, hn, hc, go_sem]
    exact rfl
  apply go_val pre_kept
  · rintro ρ wr ⟨hg, hn, hc, hf, hgl⟩
    simp only [Need, fat, List.nil_append, List.cons_append, List.getD_cons_zero, List.getD_cons_succ, Fct.hold, and_true] at hn
    have hx := O1.out.2.trans ((Kept.drew (Kept.refl _)).trans hg)
    have hl := And.intro (box6 (hx.blk HB.out)).1 (And.intro (box6 (hx.blk HB.out)).2.1 (box6 (hx.blk HKA.out)).2.2.2.1)
    simp only [HE.out.1] at hl
    refine ⟨by simp [wantP, hn], ?_⟩
    simp [execOp, hn, hc, hl, go_sem]
    exact rfl
  apply go_val pre_kept
  · rintro ρ wr ⟨hg, hn, hc, hf, hgl⟩
    simp only [Need, fat, List.nil_append, List.cons_append, List.getD_cons_zero, List.getD_cons_succ, Fct.hold, and_true] at hn
    refine ⟨by simp [wantP, hn], ?_⟩
    simp [execOp, hn, hc, go_sem]
    exact rfl
  apply go_val pre_kept
  · rintro ρ wr ⟨hg, hn, hc, hf, hgl⟩
    simp only [Need, fat, List.nil_append, List.cons_append, List.getD_cons_zero, List.getD_cons_succ, Fct.hold, and_true] at hn
    refine ⟨by simp [wantP, hn], ?_⟩
    simp [execOp, hn, hc, go_sem]
    exact rfl
  apply go_val pre_kept
  · rintro ρ wr ⟨hg, hn, hc, hf, hgl⟩
    simp only [Need, fat, List.nil_append, List.cons_append, List.getD_cons_zero, List.getD_cons_succ, Fct.hold, and_true] at hn
    have hx := O1.out.2.trans ((Kept.drew (Kept.refl _)).trans hg)
    have hl := And.intro (box6 (hx.blk HB.out)).1 (And.intro (box6 (hx.blk HB.out)).2.1 (box6 (hx.blk HKA.out)).2.2.2.1)
    simp only [HE.out.1] at hl
    refine ⟨by simp [wantP, hn], ?_⟩
    simp [execOp, hn, hc, hl, go_sem]
    exact rfl
  apply go_val (x := .int .i64 (f - n1)) pre_kept
  · rintro ρ wr ⟨hg, hn, hc, hf, hgl⟩
    simp only [Need, fat, List.nil_append, List.cons_append, List.getD_cons_zero, List.getD_cons_succ, Fct.hold, and_true] at hn
    refine ⟨by simp [wantP, hn], ?_⟩
    simp [execOp, hn, hc, go_sem, IntWalk.i64_in _ (by omega : -9223372036854775808 ≤ f - n1 ∧ f - n1 ≤ 9223372036854775807)]
  apply go_val pre_kept
  · rintro ρ wr ⟨hg, hn, hc, hf, hgl⟩
    simp only [Need, fat, List.nil_append, List.cons_append, List.getD_cons_zero, List.getD_cons_succ, Fct.hold, and_true] at hn
    refine ⟨by simp [wantP, hn], ?_⟩
    simp [execOp, hn, hc, go_sem]
    exact rfl
  apply go_val pre_kept
  · rintro ρ wr ⟨hg, hn, hc, hf, hgl⟩
    simp only [Need, fat, List.nil_append, List.cons_append, List.getD_cons_zero, List.getD_cons_succ, Fct.hold, and_true] at hn
    refine ⟨by simp [wantP, hn], ?_⟩
    simp [execOp, hn, hc, go_sem]
    exact rfl
  apply go_val pre_kept
  · rintro ρ wr ⟨hg, hn, hc, hf, hgl⟩
    simp only [Need, fat, List.nil_append, List.cons_append, List.getD_cons_zero, List.getD_cons_succ, Fct.hold, and_true] at hn
    refine ⟨by simp [wantP, hn], ?_⟩
    simp [execOp, hn, hc, go_sem]
    exact rfl
  apply go_val pre_kept
  · rintro ρ wr ⟨hg, hn, hc, hf, hgl⟩
    simp only [Need, fat, List.nil_append, List.cons_append, List.getD_cons_zero, List.getD_cons_succ, Fct.hold, and_true] at hn
    refine ⟨by simp [wantP, hn], ?_⟩
    simp [execOp, hn, hc, go_sem]
    exact rfl
  apply go_val pre_kept
  · rintro ρ wr ⟨hg, hn, hc, hf, hgl⟩
    simp only [Need, fat, List.nil_append, List.cons_append, List.getD_cons_zero, List.getD_cons_succ, Fct.hold, and_true] at hn
    have hx := O1.out.2.trans ((Kept.drew (Kept.refl _)).trans hg)
    have hl := And.intro (box6 (hx.blk HB.out)).1 (And.intro (box6 (hx.blk HB.out)).2.1 (box6 (hx.blk HKA.out)).2.2.2.1)
    simp only [HE.out.1] at hl
    refine ⟨by simp [wantP, hn], ?_⟩
    simp [execOp, hn, hc, hl, go_sem]
    exact rfl
  apply go_val pre_kept
  · rintro ρ wr ⟨hg, hn, hc, hf, hgl⟩
    simp only [Need, fat, List.nil_append, List.cons_append, List.getD_cons_zero, List.getD_cons_succ, Fct.hold, and_true] at hn
    refine ⟨by simp [wantP, hn], ?_⟩
    simp [execOp, hn, hc, go_sem]
    exact rfl
  apply go_val pre_kept
  · rintro ρ wr ⟨hg, hn, hc, hf, hgl⟩
    simp only [Need, fat, List.nil_append, List.cons_append, List.getD_cons_zero, List.getD_cons_succ, Fct.hold, and_true] at hn
    refine ⟨by simp [wantP, hn], ?_⟩
    simp [execOp, hn, hc, go_sem]
    exact rfl
  apply go_val pre_kept
  · rintro ρ wr ⟨hg, hn, hc, hf, hgl⟩
    simp only [Need, fat, List.nil_append, List.cons_append, List.getD_cons_zero, List.getD_cons_succ, Fct.hold, and_true] at hn
    have hx := O1.out.2.trans ((Kept.drew (Kept.refl _)).trans hg)
    have hl := And.intro (box6 (hx.blk HB.out)).1 (And.intro (box6 (hx.blk HB.out)).2.1 (box6 (hx.blk HKA.out)).2.2.2.1)
    simp only [HE.out.1] at hl
    refine ⟨by simp [wantP, hn], ?_⟩
    simp [execOp, hn, hc, hl, go_sem]
    exact rfl
  apply go_val (x := .int .i64 (g - n1)) pre_kept
  · rintro ρ wr ⟨hg, hn, hc, hf, hgl⟩
    simp only [Need, fat, List.nil_append, List.cons_append, List.getD_cons_zero, List.getD_cons_succ, Fct.hold, and_true] at hn
    refine ⟨by simp [wantP, hn], ?_⟩
    simp [execOp, hn, hc, go_sem, IntWalk.i64_in _ (by omega : -9223372036854775808 ≤ g - n1 ∧ g - n1 ≤ 9223372036854775807)]
  intro w2 hk2
  simp only [Post, List.nil_append, List.cons_append, Act.put, List.setIfInBounds_toArray, List.set_cons_zero, List.set_cons_succ]
  have H2 := Lib.hid (And.intro (O1.out.1.kept ((Kept.drew (Kept.refl _)).trans hk2)) (O1.out.2.trans ((Kept.drew (Kept.refl _)).trans hk2)))
  clear hk2
  rename_i K hK
  unfold Oper.wp execOp
  go_simp
  refine (HI.out.2 _ _ (xs ++ T1) (f - n1) (g - n1) w2 HA.out.2 H2.out.2 H2.out.1 (by have := HE.out; have := HP.out; omega) (by omega) (by have := HE.out; have := HP.out; omega) (by omega) (by have := HE.out; have := HP.out; have := HL.out; rw [List.length_append]; omega)).mono ?_
  rintro e w3 ⟨u3, rfl, o3, k3⟩
  rw [HT.out.2] at o3
  obtain ⟨A3, n3, c3, rfl⟩ := o3.form
  have H3 := Lib.hid (And.intro o3 k3)
  clear o3 k3
  refine hK _ _ ?_
  clear hK K
  go_wp2_with fail
  go_ret
  exact ⟨_, rfl, by rw [← List.append_assoc]; exact H3.out.1, H3.out.2⟩
theorem pour_t (W0 : World) : ∀ t : Tr, Pours W0 t
  | .leaf s => pour_leaf W0 s
  | .node l r => pour_node W0 l r (pour_t W0 l) (pour_t W0 r)
theorem pour_any (W0 : World) (v out : Value) (s xs : List UInt8) (f g : Int) (w : World) (h : OL W0 v s) (hk : Kept W0 w) (ho : Own W0 w out xs) (hf1 : -1000000000000000 ≤ f - s.length) (hf2 : f ≤ 100000000000000) (hg1 : -1000000000000000 ≤ g - s.length) (hg2 : g ≤ 100000000000000) (hn : xs.length + s.length ≤ 100000000000000) :
    Calls Try.prog 22 #[v, out, .int .i64 f, .int .i64 g] w fun e w' => ∃ u, e = .returned u ∧ Own W0 w' u (xs ++ (s.take g.toNat).drop f.toNat) ∧ Kept W0 w' := by
  obtain ⟨o, h1, -, rfl⟩ := h
  cases o with
  | some t => exact pour_t W0 t v out xs f g w h1 hk ho hf1 hf2 hg1 hg2 hn
  | none =>
    cases h1
    obtain ⟨A, n, c, rfl⟩ := ho.form
    have H := Lib.hid (And.intro ho hk)
    clear ho hk hn
    go_enter Try.func22, Try.ntmps22
    go_wp2_with fail
    go_ret
    exact ⟨_, rfl, by simpa [otext] using H.out.1, H.out.2⟩
end Go.Proofs.Ytdobbindilibjaa
