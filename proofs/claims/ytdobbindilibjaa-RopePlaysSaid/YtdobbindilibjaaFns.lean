/-
  What package splice's Clamp does, and what the document's own Clamp and Do do, on values and memory.
-/
import Derived.Test.YtdobbindilibjaaTree
import Derived.Test.YtdobbindilibjaaReg
set_option linter.unusedSimpArgs false
namespace Go.Proofs.Ytdobbindilibjaa
open Go Go.RowKit Kit
theorem pre_kept' : Pre Kept := ⟨Kept.refl, Kept.trans⟩
def cutI (x top : Int) : Int := max 0 (min x top)
theorem cutI_bd (x t : Int) : 0 ≤ cutI x t ∧ (0 ≤ t → cutI x t ≤ t) := by unfold cutI; omega
theorem info5 : (Try.prog.info? 5).map (fun i => (i.zero, i.size, i.bytes)) = some (some (.int .u8 0), 1, 1) := by kernel_rfl
theorem cut_any (x t : Int) (w : World) : Calls Try.prog 42 #[.int .i64 x, .int .i64 t] w fun e w' => e = .returned (.int .i64 (cutI x t)) ∧ w = w' := by
  have key : ∀ y : Int, y = cutI x t → Ending.returned (Value.int .i64 y) = Ending.returned (.int .i64 (cutI x t)) := fun y h => by rw [h]
  by_cases h1 : t < x <;> by_cases h2 : 0 < t <;> by_cases h3 : 0 < x
  all_goals
    go_enter Try.func42, Try.ntmps42
    go_wp2
  all_goals go_ret
  all_goals exact ⟨key _ (by unfold cutI; omega), rfl⟩

/-- A splice as a value. -/
def spl (p d : Int) (v : Value) : Value := .agg #[.int .i64 p, .int .i64 d, v]

theorem reach_any (n at' del : Int) (v : Value) (w : World) (hn : -9223372036854775808 ≤ n) (hn' : n ≤ 9223372036854775807) :
    Calls Try.prog 33 #[.int .i64 n, .agg #[.int .i64 at', .int .i64 del, v]] w fun e w' => e = .returned (.tuple #[.int .i64 (cutI at' n), .int .i64 (cutI del (n - cutI at' n))]) ∧ Kept w w' := by
  have h0 : n - cutI at' n ≤ 9223372036854775807 ∧ -9223372036854775808 ≤ n - cutI at' n := by unfold cutI; omega
  have hb := cutI_bd at' n
  generalize hc : cutI at' n = c at *
  have HC := Lib.hid hc
  clear hc
  go_enter Try.func33, Try.ntmps33
  go_wp2_with fail
  refine (cut_any _ _ _).mono ?_
  rintro e w' ⟨rfl, rfl⟩
  rw [HC.out]
  go_wp2_with fail
  refine (cut_any _ _ _).mono ?_
  rintro e w' ⟨rfl, rfl⟩
  go_wp2_with fail
  go_ret2
  exact ⟨rfl, (Kept.refl _).alloc _⟩

theorem fresh_any (v : Value) (l : List UInt8) (w : World) (hb : Bs w v l) (hl : l.length ≤ 140737488355328) :
    Calls Try.prog 34 #[v] w fun e w' => ∃ v', e = .returned v' ∧ Bs w' v' l ∧ Kept w w' := by
  obtain ⟨i0, hi, hz0, hz1, hz2⟩ := info_parts info5
  go_enter Try.func34, Try.ntmps34
  go_wp2_with (at_builtin; refine wpList_fresh _ rfl _ _ _ rfl 5 i0 _ Try.underlying22 hi hz0 hz1 hz2 rfl rfl v l rfl hb hl ?_; intro v' w' hb' hk')
  go_ret
  exact ⟨v', rfl, hb', hk'⟩

theorem clamp_any (n at' del : Int) (v : Value) (l : List UInt8) (w : World) (hn : -9223372036854775808 ≤ n) (hn' : n ≤ 9223372036854775807) (hb : Bs w v l) (hl : l.length ≤ 140737488355328) :
    Calls Try.prog 26 #[.int .i64 n, .agg #[.int .i64 at', .int .i64 del, v]] w fun e w' => ∃ v', e = .returned (.agg #[.int .i64 (cutI at' n), .int .i64 (cutI del (n - cutI at' n)), v']) ∧ Bs w' v' l ∧ Kept w w' := by
  have HR := fun w' : World => Lib.hid (reach_any n at' del v w' hn hn')
  generalize cutI at' n = p at *
  generalize cutI del (n - p) = d at *
  go_enter Try.func26, Try.ntmps26
  go_wp2_with fail
  refine (HR _).out.mono ?_
  rintro e w1 ⟨rfl, hk1⟩
  obtain ⟨⟨c0, c1, c2⟩, _⟩ := box3 (Kept.blk hk1 (blk_old _ _ (blk_new w _)))
  go_wp2_with fail
  refine (fresh_any _ l _ (hb.keep (Kept.trans (((Kept.refl _).alloc _).alloc _) hk1)) hl).mono ?_
  rintro e w2 ⟨v', rfl, hb2, hk2⟩
  obtain ⟨A, c, rfl⟩ := hb2.form
  have hB := Kept.blk hk2 (Kept.blk hk1 (blk_new (w.alloc _) _))
  simp only [World.size_alloc] at hB
  obtain ⟨⟨d0, d1, d2⟩, f0, f1, f2⟩ := box3 hB
  go_wp2_with fail
  refine bodyPost_ret (v := .agg #[.int .i64 p, .int .i64 d, .slice A l.length c]) ?_ rfl ⟨_, rfl, hb2.set3 (fun c => by simp [bv]) hB _ _ _, ?_⟩
  · simp [results, Try.results26, go_sem, d0, d1, d2]
  · exact (((Kept.trans (((Kept.refl _).alloc _).alloc _) (hk1.trans hk2)).setCell (by simp) _).setCell (by simp) _).setCell (by simp) _
def rcut (x lo hi : Int) : Int := if x < lo then lo else if hi < x then hi else x
theorem refcut_any (x lo hi : Int) (w : World) : Calls Try.prog 24 #[.int .i64 x, .int .i64 lo, .int .i64 hi] w fun e w' => e = .returned (.int .i64 (rcut x lo hi)) ∧ w = w' := by
  have key : ∀ y : Int, y = rcut x lo hi → Ending.returned (Value.int .i64 y) = Ending.returned (.int .i64 (rcut x lo hi)) := fun y h => by rw [h]
  by_cases h1 : x < lo <;> by_cases h2 : hi < x
  all_goals
    go_enter Try.func24, Try.ntmps24
    go_wp2
    go_ret
    exact ⟨key _ (by unfold rcut; first | rw [if_pos (by omega)] | (rw [if_neg (by omega)]; first | rw [if_pos (by omega)] | rw [if_neg (by omega)])), rfl⟩

/-- An append in a region that draws. -/
theorem Kit.ups_app {P : Program} {ρ : Operand → Value} {o : Oper} {w : World} {R : Value → World → Prop} (s x : Operand) (t tn : TypeId) (ho : o.op = .call { callee := .builtin .append, args := #[s, x], argTypes := #[t, tn] }) (vs vx : Value) (hs : ρ s = vs) (hx : ρ x = vx) (v' : Value) (w' : World)
    (hr : (Builtin.append_ #[t, tn] o.type #[vs, vx]).run P w = .ok v' w') (h : R v' w') : Ups P R ((execOp ρ o).run P w) := by
  unfold execOp
  simp only [ho, resolve, invoke, builtin, Sem.run_bind, Sem.run_pure, Result.andThen_ok, List.map_toArray, List.map_cons, List.map_nil, hs, hx, hr]
  exact h


set_option maxHeartbeats 2000000 in
theorem refclamp_any (n at' del : Int) (v : Value) (l : List UInt8) (w : World) (hn : 0 ≤ n) (hn' : n ≤ 9223372036854775807) (hb : Bs w v l) (hl : l.length ≤ 140737488355328) :
    Calls Try.prog 30 #[.int .i64 n, .agg #[.int .i64 at', .int .i64 del, v]] w fun e w' => ∃ v', e = .returned (.agg #[.int .i64 (cutI at' n), .int .i64 (cutI del (n - cutI at' n)), v']) ∧ Bs w' v' l ∧ Kept w w' := by
  obtain ⟨A1, c1, rfl⟩ := hb.form
  have HV := Lib.hid hb
  clear hb
  obtain ⟨i0, hi, hz0, hz1, hz2⟩ := info_parts info5
  have ep : rcut at' 0 n = cutI at' n := by unfold rcut cutI; split <;> (try split) <;> omega
  have hb1 := cutI_bd at' n
  have ed : rcut del 0 (n - cutI at' n) = cutI del (n - cutI at' n) := by unfold rcut; have := hb1.2 hn; unfold cutI at *; split <;> (try split) <;> omega
  generalize cutI at' n = p at *
  generalize cutI del (n - p) = d at *
  have EP := Lib.hid ep
  have ED := Lib.hid ed
  have hb2 := hb1.2 hn
  have hq : IntKind.i64.wrap (n - p) = n - p := IntWalk.i64_in _ (by omega)
  have HQ := Lib.hid hq
  clear ep ed hq
  have h0 : ¬ n < 0 := by omega
  go_enter Try.func30, Try.ntmps30
  go_wp2_with fail
  refine (refcut_any _ _ _ _).mono ?_
  rintro e w1 ⟨rfl, rfl⟩
  rw [EP.out]
  go_wp2_with fail
  have hq := HQ.out
  have hk1 : Kept w ((w.alloc (.cells #[.int .i64 at', .int .i64 del, .slice A1 l.length c1] 35)).alloc (.cells #[.int .i64 0, .int .i64 0, .slice none 0 0] 35)) := ((Kept.refl _).alloc _).alloc _
  have hW3 := blk_old (w.alloc (.cells #[.int .i64 at', .int .i64 del, .slice A1 l.length c1] 35)) (.cells #[.int .i64 0, .int .i64 0, .slice none 0 0] 35) (blk_new w _)
  have hW4 := blk_new (w.alloc (.cells #[.int .i64 at', .int .i64 del, .slice A1 l.length c1] 35)) (.cells #[.int .i64 0, .int .i64 0, .slice none 0 0] 35)
  rw [World.size_alloc] at hW4
  generalize (w.alloc (.cells #[.int .i64 at', .int .i64 del, .slice A1 l.length c1] 35)).alloc (.cells #[.int .i64 0, .int .i64 0, .slice none 0 0] 35) = W at *
  obtain ⟨⟨c0, c1', c2⟩, -⟩ := box3 hW3
  have HK := Lib.hid hk1
  have HW4 := Lib.hid hW4
  clear hk1 hW3 hW4
  refine wp_region_fin' (by simp only [List.dropLast_cons_cons, List.dropLast_singleton]; exact rfl) (by simp only [List.getLast?_cons_cons, List.getLast?_singleton]; exact rfl) Kept pre_kept' [([(5, none)], none), ([(3, none)], none), ([(13, some 1)], none), ([(0, none)], none), ([(5, none)], none), ([(15, some 3), (16, some 4)], none), ([(14, some 2), (17, some 5)], none), ([(3, none)], none), ([(19, some 7)], none), ([(20, some 8)], none), ([(12, some 0), (18, some 6), (21, some 9)], none), ([(4, none), (22, some 10)], none)] (by kernel_rfl) 23 rfl (by kernel_rfl) (by kernel_rfl) rfl ?_
  apply go_val pre_kept'
  · rintro ρ wr ⟨hg, hn, hc, hf, hgl⟩
    simp only [Need, fat, List.nil_append, List.cons_append, List.getD_cons_zero, List.getD_cons_succ, Fct.hold, and_true] at hn
    refine ⟨by simp [wantP, hn], ?_⟩
    simp [execOp, hn, hc, go_sem]
    exact rfl
  apply go_val pre_kept'
  · rintro ρ wr ⟨hg, hn, hc, hf, hgl⟩
    simp only [Need, fat, List.nil_append, List.cons_append, List.getD_cons_zero, List.getD_cons_succ, Fct.hold, and_true] at hn
    refine ⟨by simp [wantP, hn], ?_⟩
    simp [execOp, hn, hc, go_sem]
    exact rfl
  apply go_val pre_kept'
  · rintro ρ wr ⟨hg, hn, hc, hf, hgl⟩
    simp only [Need, fat, List.nil_append, List.cons_append, List.getD_cons_zero, List.getD_cons_succ, Fct.hold, and_true] at hn
    have hl := And.intro (hg.cell c1') (hg.cell c2)
    refine ⟨by simp [wantP, hn], ?_⟩
    simp [execOp, hn, hc, hl, go_sem]
    exact rfl
  apply go_val pre_kept'
  · rintro ρ wr ⟨hg, hn, hc, hf, hgl⟩
    simp only [Need, fat, List.nil_append, List.cons_append, List.getD_cons_zero, List.getD_cons_succ, Fct.hold, and_true] at hn
    refine ⟨by simp [wantP, hn], ?_⟩
    simp [execOp, hn, hc, go_sem]
    exact rfl
  apply go_val pre_kept'
  · rintro ρ wr ⟨hg, hn, hc, hf, hgl⟩
    simp only [Need, fat, List.nil_append, List.cons_append, List.getD_cons_zero, List.getD_cons_succ, Fct.hold, and_true] at hn
    refine ⟨by simp [wantP, hn], ?_⟩
    simp [execOp, hn, hc, go_sem]
    exact rfl
  apply go_val pre_kept'
  · rintro ρ wr ⟨hg, hn, hc, hf, hgl⟩
    simp only [Need, fat, List.nil_append, List.cons_append, List.getD_cons_zero, List.getD_cons_succ, Fct.hold, and_true] at hn
    refine ⟨by simp [wantP, hn], ?_⟩
    simp [execOp, hn, hc, go_sem, hq]
    exact rfl
  apply go_callv (x := .int .i64 d)
  · rintro ρ wr ⟨hg, hn, hc, hf, hgl⟩
    simp only [Need, fat, List.nil_append, List.cons_append, List.getD_cons_zero, List.getD_cons_succ, Fct.hold, and_true] at hn
    refine ⟨by simp [wantP], _, _, by simp [execOp, hn, hf, hc, resolve, invoke, go_sem]; exact ⟨rfl, rfl⟩, ?_⟩
    exact (refcut_any _ _ _ _).mono fun e w' ⟨h1, h2⟩ => ⟨_, h1, by rw [ED.out], by rw [h2]; exact Kept.refl _⟩
  apply go_val pre_kept'
  · rintro ρ wr ⟨hg, hn, hc, hf, hgl⟩
    simp only [Need, fat, List.nil_append, List.cons_append, List.getD_cons_zero, List.getD_cons_succ, Fct.hold, and_true] at hn
    refine ⟨by simp [wantP, hn], ?_⟩
    simp [execOp, hn, hc, go_sem]
    exact rfl
  apply go_val pre_kept'
  · rintro ρ wr ⟨hg, hn, hc, hf, hgl⟩
    simp only [Need, fat, List.nil_append, List.cons_append, List.getD_cons_zero, List.getD_cons_succ, Fct.hold, and_true] at hn
    have hl := And.intro (hg.cell c1') (hg.cell c2)
    refine ⟨by simp [wantP, hn], ?_⟩
    simp [execOp, hn, hc, hl, go_sem]
    exact rfl
  refine go_any (p := fun u w' => Bs w' u l) (fun _ _ _ h k => k.keep h) ?_ ?_
  · rintro ρ wr ⟨hg, hn, hc, hf, hgl⟩
    simp only [Need, fat, List.nil_append, List.cons_append, List.getD_cons_zero, List.getD_cons_succ, Fct.hold, and_true] at hn
    refine ⟨by simp [wantP], ?_⟩
    obtain ⟨v', w', hr, h2, h3⟩ := run_fresh (P := Try.prog) wr 22 22 5 i0 _ Try.underlying22 hi hz0 hz1 hz2 rfl (.slice A1 l.length c1) l (HV.out.keep (HK.out.trans ((Kept.drew (Kept.refl _)).trans hg))) hl
    exact ups_app _ _ 22 22 rfl _ _ (hc _) hn v' w' hr ⟨h2, h3⟩
  refine go_so pre_kept' (p := fun v w' => ∃ u, v = .agg #[.int .i64 p, .int .i64 d, u] ∧ Bs w' u l) (fun _ _ _ h ⟨u, k1, k2⟩ => ⟨u, k1, k2.keep h⟩) ?_ ?_
  · rintro ρ wr ⟨hg, hn, hc, hf, hgl⟩
    simp only [Need, fat, List.nil_append, List.cons_append, List.getD_cons_zero, List.getD_cons_succ, Fct.hold, and_true] at hn
    obtain ⟨n1, n2, n3⟩ := hn
    have N3 := Lib.hid n3
    clear n3
    refine ⟨by simp [wantP], _, ?_, _, rfl, N3.out⟩
    obtain ⟨A3, c3, e3⟩ := N3.out.form
    simp [execOp, n1, n2, e3, hc, go_sem]
  intro w2 hk2
  simp only [Post, List.nil_append, List.cons_append, Act.put, List.setIfInBounds_toArray, List.set_cons_zero, List.set_cons_succ]
  rintro u1 h1 _ ⟨u, rfl, h2⟩
  have H2 := Lib.hid h2
  obtain ⟨A3, c3, rfl⟩ := h2.form
  have hB := (Kept.drew (Kept.refl _)).trans hk2 |>.blk HW4.out
  obtain ⟨⟨d0, d1, d2⟩, f0, f1, f2⟩ := box3 hB
  have HKK := Lib.hid (HK.out.trans ((Kept.drew (Kept.refl _)).trans hk2))
  have HB := Lib.hid hB
  clear h1 h2 hB hk2 c0 c1' c2
  rename_i K hK
  unfold Oper.wp execOp
  go_simp
  refine hK _ _ ?_
  clear hK K
  go_wp2_with fail
  refine bodyPost_ret (v := .agg #[.int .i64 p, .int .i64 d, .slice A3 l.length c3]) ?_ rfl ⟨_, rfl, H2.out.set3 (fun c => by simp [bv]) HB.out _ _ _, ?_⟩
  · simp [results, Try.results30, go_sem, d0, d1, d2]
  · exact ((HKK.out.setCell (by simp) _).setCell (by simp) _).setCell (by simp) _
set_option maxHeartbeats 2000000 in
theorem refdo_any (A : Option Addr) (n c : Nat) (at' del : Int) (v : Value) (b l : List UInt8) (w : World) (hb : Bs w (.slice A n c) b) (hv : Bs w v l) (hbl : b.length ≤ 10000000000000) (hll : l.length ≤ 10000000000000) :
    Calls Try.prog 18 #[.slice A n c, .agg #[.int .i64 at', .int .i64 del, v]] w fun e w' => ∃ v', e = .returned v' ∧ Bs w' v' (b.take (cutI at' b.length).toNat ++ l ++ b.drop ((cutI at' b.length).toNat + (cutI del (b.length - cutI at' b.length)).toNat)) ∧ Kept w w' := by
  obtain ⟨A1, c1, rfl⟩ := hv.form
  obtain ⟨hn, hnc, hcm⟩ := hb.len
  subst hn
  have HC := fun (w' : World) h => Lib.hid (refclamp_any b.length at' del (.slice A1 l.length c1) l w' (by omega) (by omega) h (by omega))
  have hp := cutI_bd at' b.length
  generalize cutI at' b.length = p at *
  have hd := cutI_bd del (b.length - p)
  generalize cutI del (b.length - p) = d at *
  have hp2 := hp.2 (by omega)
  have hd2 := hd.2 (by omega)
  obtain ⟨p, rfl⟩ := Int.eq_ofNat_of_zero_le hp.1
  obtain ⟨d, rfl⟩ := Int.eq_ofNat_of_zero_le hd.1
  clear hp hd
  simp only [Int.toNat_natCast]
  have hcut1 := hb.cut (lo := 0) (hi := p) (m := c) (by omega) (by omega) (by omega) (by omega)
  have hcut2 := hb.cut (lo := p + d) (hi := b.length) (m := c) (by omega) (by omega) (by omega) (by omega)
  simp only [Nat.sub_zero, List.drop_zero, Addr.add_zero', Option.map_id', ite_self] at hcut1
  rw [List.take_of_length_le (Nat.le_refl _)] at hcut2
  have l1 : (b.take p).length = p := by simp; omega
  have l2 : (b.drop (p + d)).length = b.length - (p + d) := by simp
  generalize b.take p = T1 at *
  generalize b.drop (p + d) = T2 at *
  have L1 := Lib.hid l1
  have L2 := Lib.hid l2
  have H1 := Lib.hid hcut1
  have H2 := Lib.hid hcut2
  have HV := Lib.hid hv
  clear hb hv hcut1 hcut2 l1 l2
  obtain ⟨i0, hi, hz0, hz1, hz2⟩ := info_parts info5
  go_enter Try.func18, Try.ntmps18
  go_wp2_with fail
  refine (HC _ (HV.out.keep ((Kept.refl _).alloc _))).out.mono ?_
  rintro e w1 ⟨v', rfl, hb1, hk1⟩
  obtain ⟨A2, c2, rfl⟩ := hb1.form
  have HX := Lib.hid (hb1.keep ((Kept.refl _).alloc (.cells #[.int .i64 p, .int .i64 d, .slice A2 l.length c2] 35)))
  have hkw : Kept w (w1.alloc (.cells #[.int .i64 p, .int .i64 d, .slice A2 l.length c2] 35)) := (((Kept.refl _).alloc _).trans hk1).alloc _
  have hW := blk_new w1 (.cells #[.int .i64 p, .int .i64 d, .slice A2 l.length c2] 35)
  have HW := Lib.hid hW
  clear hb1 hW
  have e1 : (p : Int) ≤ c := by omega
  have e2 : 0 ≤ (p : Int) + d := by omega
  have e3 : (p : Int) + d ≤ b.length := by omega
  have hq : ((p : Int) + d).toNat = p + d := by omega
  obtain ⟨A4, hA4⟩ : ∃ A4, (if c = p + d then A else A.map (·.add (p + d))) = A4 := ⟨_, rfl⟩
  have h2 := H2.out
  rw [hA4] at h2
  have H4 := Lib.hid h2
  clear h2 H2
  go_wp2_with (first
    | (at_builtin
       refine wpList_app _ rfl _ _ _ rfl (w1.heap.size + 1) 5 i0 _ Try.underlying22 hi hz0 hz1 hz2 rfl (.slice none 0 0) 0 [] rfl (World.ownsRow_nil _ _ _ _) (.slice A p c) T1 rfl (H1.out.keep hkw) (by rw [L1.out]; omega) (by simp) ?_
       intro v2 w2 hown2 hg2 hat2
       have hk2 : Kept (w1.alloc (.cells #[.int .i64 p, .int .i64 d, .slice A2 l.length c2] 35)) w2 := Kept.of_grown (by simpa [Value.ownBlock] using hg2)
       obtain ⟨⟨x0, x1, x2⟩, x3⟩ := box3 (Kept.blk hk2 HW.out)
       have O2 := Lib.hid hown2
       clear hown2 hg2 hat2 x3)
    | (at_builtin
       refine wpList_app _ rfl _ _ _ rfl (w1.heap.size + 1) 5 i0 _ Try.underlying22 hi hz0 hz1 hz2 rfl v2 (0 + T1.length) ([] ++ T1) rfl O2.out (.slice A2 l.length c2) l rfl (HX.out.keep hk2) (by rw [L1.out]; omega) (by have := hk2.size; simpa using this) ?_
       intro v3 w3 hown3 hg3 hat3
       have hk3 : Kept (w1.alloc (.cells #[.int .i64 p, .int .i64 d, .slice A2 l.length c2] 35)) w3 := Below.grown hk2 hg3 hk2.size (fun k hk => by have := (O2.out.lt k hk).1; simpa using this)
       obtain ⟨⟨y0, y1, y2⟩, y3⟩ := box3 (Kept.blk hk3 HW.out)
       have O3 := Lib.hid hown3
       clear hown3 hg3 hat3 y3)
    | (at_builtin
       refine wpList_app _ rfl _ _ _ rfl (w1.heap.size + 1) 5 i0 _ Try.underlying22 hi hz0 hz1 hz2 rfl v3 (0 + T1.length + l.length) ([] ++ T1 ++ l) rfl O3.out (.slice A4 (b.length - (p + d)) (c - (p + d))) T2 rfl (H4.out.keep (hkw.trans hk3)) (by rw [L1.out, L2.out]; omega) (by have := hk3.size; simpa using this) ?_
       intro v4 w4 hown4 hg4 hat4
       have hk4 : Kept (w1.alloc (.cells #[.int .i64 p, .int .i64 d, .slice A2 l.length c2] 35)) w4 := Below.grown hk3 hg4 hk3.size (fun k hk => by have := (O3.out.lt k hk).1; simpa using this)
       have O4 := Lib.hid hown4
       clear hown4 hg4 hat4))
  go_ret
  exact ⟨v4, rfl, Bs.of_own (by simpa using O4.out), hkw.trans hk4⟩


end Go.Proofs.Ytdobbindilibjaa
