/-
  What posit's Takes says. Conditions: the places are readable, and not over 150.
-/
import Derived.Test.YtdbffbdpofodmaaFnd
import Derived.Laws.MakeOwn
set_option linter.unusedSimpArgs false
namespace Go.Proofs.Ytdbffbdpofodmaa
open Go Go.RowKit Kit
theorem made_ints (n : Nat) : (madeCells #[.int .i64 0] n).size = n ∧ (madeCells #[.int .i64 0] n).toList = ints (List.replicate n 0) := by
  refine ⟨size_madeCells _ _, ?_⟩
  apply List.ext_getElem?
  intro i
  by_cases h : i < n
  · have h1 : i < (madeCells #[Value.int .i64 0] n).size := by rw [size_madeCells]; exact h
    rw [Array.getElem?_toList, Array.getElem?_eq_getElem h1]
    unfold ints
    simp [madeCells, h, Nat.mod_one]
  · rw [Array.getElem?_toList, Array.getElem?_eq_none (by rw [size_madeCells]; omega)]
    unfold ints
    simp [h]
def W9 (w : World) (b : Nat) (p0 : Value) (pn : Bool) (p2 p3 p4 vt : Value) : World :=
  ((((((((w.setCell ⟨b, 0, none⟩ p0).setCell ⟨b, 1, none⟩ (.bool pn)).setCell ⟨b, 2, none⟩ p2).setCell ⟨b, 3, none⟩ p3).setCell ⟨b, 4, none⟩ p4).setCell ⟨b, 5, none⟩ (.int .i64 0)).setCell ⟨b, 6, none⟩ (.slice none 0 0)).setCell ⟨b, 7, none⟩ (.slice none 0 0)).setCell ⟨b, 8, none⟩ vt
theorem W9_other {w : World} {b k : Nat} {p0 p2 p3 p4 vt : Value} {pn : Bool} (h : k ≠ b) : (W9 w b p0 pn p2 p3 p4 vt).heap[k]? = w.heap[k]? := by
  unfold W9
  iterate 9 rw [set_other h]
theorem W9_own {w : World} {b : Nat} {p0 p2 p3 p4 vt : Value} {pn : Bool} (h : w.heap[b]? = some (.cells #[.slice none 0 0, .bool false, .slice none 0 0, .slice none 0 0, .slice none 0 0, .int .i64 0, .slice none 0 0, .slice none 0 0, .slice none 0 0] 82)) : (W9 w b p0 pn p2 p3 p4 vt).heap[b]? = some (WO p0 pn p2 p3 p4 0 (.slice none 0 0) (.slice none 0 0) vt) := by
  unfold W9 WO
  simp [World.setCell, Array.getElem?_modify, h]
theorem W9_kept {a w : World} {b : Nat} {p0 p2 p3 p4 vt : Value} {pn : Bool} (h : Kept a w) (hb : a.heap.size ≤ b) : Kept a (W9 w b p0 pn p2 p3 p4 vt) := by
  unfold W9
  exact ((((((((h.setCell (p := ⟨b, 0, none⟩) hb _).setCell (p := ⟨b, 1, none⟩) hb _).setCell (p := ⟨b, 2, none⟩) hb _).setCell (p := ⟨b, 3, none⟩) hb _).setCell (p := ⟨b, 4, none⟩) hb _).setCell (p := ⟨b, 5, none⟩) hb _).setCell (p := ⟨b, 6, none⟩) hb _).setCell (p := ⟨b, 7, none⟩) hb _).setCell (p := ⟨b, 8, none⟩) hb _
theorem tks_new {base b q n : Nat} {w : World} {p0 p2 p3 p4 : Value} {p : Pt} {st : Ps} (hb : w.heap[b]? = some (.cells #[.slice none 0 0, .bool false, .slice none 0 0, .slice none 0 0, .slice none 0 0, .int .i64 0, .slice none 0 0, .slice none 0 0, .slice none 0 0] 82)) (hq : w.heap[q]? = some (.cells (madeCells #[.int .i64 0] n) 3)) (hbb : base ≤ b) (hqb : base ≤ q) (hn : n ≤ 150) (hs : st.sets.length = n)
    (hp : PosAt (· < base) w (.agg #[p0, .bool p.null, p2, p3, p4]) p st) : TkS b base (W9 w b p0 p.null p2 p3 p4 (.slice (some ⟨q, 0, none⟩) n n)) p0 p2 p3 p4 p st 0 (.slice none 0 0) (.slice none 0 0) (.slice (some ⟨q, 0, none⟩) n n) [] [] (List.replicate n 0) := by
  have hne : q ≠ b := by
    rintro rfl
    rw [hb] at hq
    injection hq with hq
    injection hq with h1 h2
    exact absurd h2 (by decide)
  have hm : maxLen = 9223372036854775807 := rfl
  refine ⟨W9_own hb, hp.keep fun k _ hk => ⟨hk, W9_other (by omega)⟩, R1.nil _ _ _, R1.nil _ _ _, ?_, by simp [hs], hbb, by simp [Value.ownBlock], by simp [Value.ownBlock], ?_, by simp [Value.ownBlock], by simp [Value.ownBlock], by simp [Value.ownBlock]⟩
  · have hl : (ints (List.replicate n 0)).length = n := by rw [ints_len, List.length_replicate]
    refine ⟨by simp, .inr ⟨q, n, madeCells #[.int .i64 0] n, by rw [hl], hqb, (W9_other hne).trans hq, by rw [hl]; exact Nat.le_refl _, by omega, by rw [(made_ints n).1]; omega, ?_⟩⟩
    rw [(made_ints n).2, Nat.mul_one, List.take_length]
  · intro e
    exact hne (by injection e)
theorem mk_ints (n : Nat) (hn : n ≤ 150) (w : World) : (Instr.makeSlice 30 (.int .i64 (n : Nat)) (.int .i64 (n : Nat))).run Try.prog w = .ok (.slice (some ⟨w.heap.size, 0, none⟩) n n) (w.alloc (.cells (madeCells #[.int .i64 0] n) 3)) := by
  have hi : ∃ i, Try.prog.info? 3 = some i ∧ i.zero = some (.int .i64 0) ∧ i.size = 1 ∧ i.bytes = 8 := by
    have h : (Try.prog.info? 3).map (fun i => (i.zero, i.size, i.bytes)) = some (some (.int .i64 0), 1, 8) := by kernel_rfl
    cases h3 : Try.prog.info? 3 with
    | none => rw [h3] at h; cases h
    | some i =>
      rw [h3] at h
      simp only [Option.map_some, Option.some.injEq, Prod.mk.injEq] at h
      exact ⟨i, rfl, h.1, h.2.1, h.2.2⟩
  obtain ⟨i, h1, h2, h3, h4⟩ := hi
  have := run_make w 30 3 i (.int .i64 0) (by kernel_rfl) h1 h2 .i64 .i64 (n : Int) (n : Int) (by omega) (by omega) (by rw [h4]; omega) (by omega)
  rw [this, h3]
  simp [Value.cells]
def runP (st : Ps) (p : Pt) : Nat → List Nat → List Nat → List UInt8 → Bool
  | k, _, T, [] => p.last.any (fun x => decide (T[x]? = some k))
  | k, N, T, c :: r => if (stepP st.sets st.fol p.first k c.toNat N T).1.length = 0 then false else runP st p (k + 1) (stepP st.sets st.fol p.first k c.toNat N T).1 (stepP st.sets st.fol p.first k c.toNat N T).2 r
def takesP (st : Ps) (p : Pt) (bs : List UInt8) : Bool :=
  match bs with
  | [] => p.null
  | c :: r => runP st p 0 [] (List.replicate st.sets.length 0) (c :: r)
set_option maxRecDepth 100000 in
set_option maxHeartbeats 8000000 in
theorem takes_any (vP : Value) (p : Pt) (st : Ps) (vb : Value) (bs : List UInt8) (w : World) (h : PosAt (fun _ => True) w vP p st) (hb : Bs w vb bs) (hS : st.sets.length ≤ 150) (hbs : bs.length ≤ 900) : Calls Try.prog 15 #[vP, vb] w fun e w' => e = .returned (.bool (takesP st p bs)) ∧ Kept w w' := by
  obtain ⟨vS, vf, vL, vF, rfl, hls, hff, hll, hfl⟩ := h
  obtain ⟨A2, c2, e2⟩ := hff.form
  obtain ⟨A3, c3, e3⟩ := hll.form
  rw [ints_len] at e2 e3
  obtain ⟨fs, hfs, hfsl, hfse⟩ := hfl
  obtain ⟨A4, c4', e4⟩ := hfs.form
  have hfl : LsL (fun _ => True) w vF st.fol := ⟨fs, hfs, hfsl, hfse⟩
  clear hfs hfsl hfse
  obtain ⟨n2, hn2⟩ : ∃ n2, p.first.length = n2 := ⟨_, rfl⟩
  obtain ⟨n3, hn3⟩ : ∃ n3, p.last.length = n3 := ⟨_, rfl⟩
  obtain ⟨n4, hn4⟩ : ∃ n4, fs.length = n4 := ⟨_, rfl⟩
  rw [hn2] at e2
  rw [hn3] at e3
  rw [hn4] at e4
  have HN3 := Lib.hid hn3
  clear hn2 hn3 hn4
  subst e2 e3 e4
  have HP0 : Hid (PosAt (fun _ => True) w (.agg #[vS, .bool p.null, (.slice A2 n2 c2), (.slice A3 n3 c3), (.slice A4 n4 c4')]) p st) := Lib.hid ⟨_, _, _, _, rfl, hls, hff, hll, hfl⟩
  have HB := Lib.hid hb
  obtain ⟨AB, cB, rfl⟩ := hb.form
  have HS := Lib.hid hS
  obtain ⟨AS, cS, eS, -, -, -⟩ := hls
  subst eS
  obtain ⟨n, hn⟩ : ∃ n, st.sets.length = n := ⟨_, rfl⟩
  have hn9 : n ≤ 150 := by omega
  obtain ⟨m, hm⟩ : ∃ m, bs.length = m := ⟨_, rfl⟩
  rw [hm] at HB ⊢ hbs
  rw [hn] at HP0 ⊢
  have HNN := Lib.hid hn
  have HMM := Lib.hid hm
  clear hff hll hfl hb hS hn hm
  cases bs with
  | nil =>
    obtain rfl : m = 0 := HMM.out.symm
    go_enter Try.func15, Try.ntmps15
    go_wp2
    go_ret
    exact ⟨rfl, (Kept.refl _).alloc _⟩
  | cons c r =>
  have hne : ((m : Int) == 0) = false := by
    rw [beq_eq_false_iff_ne]
    have := HMM.out
    simp at this
    omega
  have hn0 : (0 : Int) ≤ n := by omega
  have hnc : (n : Int) ≤ 150 := by omega
  have HMK := Lib.hid (mk_ints n hn9)
  obtain ⟨Z, hZ⟩ : ∃ Z, madeCells #[.int .i64 0] n = Z := ⟨_, rfl⟩
  rw [hZ] at HMK
  have HZ := Lib.hid hZ
  clear hZ
  go_enter Try.func15, Try.ntmps15
  go_wp2_with fail
  have hb0 : (w.alloc (.cells #[Value.slice AS n cS, .bool p.null, (.slice A2 n2 c2), (.slice A3 n3 c3), (.slice A4 n4 c4')] 33)).heap[w.heap.size]? = some (.cells #[Value.slice AS n cS, .bool p.null, (.slice A2 n2 c2), (.slice A3 n3 c3), (.slice A4 n4 c4')] 33) := blk_new _ _
  obtain ⟨base, hbase⟩ : ∃ base, base = (w.alloc (.cells #[Value.slice AS n cS, .bool p.null, (.slice A2 n2 c2), (.slice A3 n3 c3), (.slice A4 n4 c4')] 33)).heap.size := ⟨_, rfl⟩
  have hkb : Kept w (w.alloc (.cells #[Value.slice AS n cS, .bool p.null, (.slice A2 n2 c2), (.slice A3 n3 c3), (.slice A4 n4 c4')] 33)) := (Kept.refl _).alloc _
  have HKB := Lib.hid hkb
  obtain ⟨B, hB⟩ : ∃ B, w.heap.size = B := ⟨_, rfl⟩
  rw [hB] at hb0
  generalize w.alloc (.cells #[Value.slice AS n cS, .bool p.null, (.slice A2 n2 c2), (.slice A3 n3 c3), (.slice A4 n4 c4')] 33) = w1 at hb0 hbase HKB hkb ⊢
  have HBA : Hid (∀ (x : World), Kept w1 x → base ≤ x.heap.size) := Lib.hid (by intro x hx; rw [hbase]; exact hx.size)
  have x0 : w1.cell? ⟨B, 0, none⟩ = some (.slice AS n cS) := by rw [blk_cell hb0]; rfl
  have x1 : w1.cell? ⟨B, 1, none⟩ = some (.bool p.null) := by rw [blk_cell hb0]; rfl
  have x2 : w1.cell? ⟨B, 2, none⟩ = some (.slice A2 n2 c2) := by rw [blk_cell hb0]; rfl
  have x3 : w1.cell? ⟨B, 3, none⟩ = some (.slice A3 n3 c3) := by rw [blk_cell hb0]; rfl
  have x4 : w1.cell? ⟨B, 4, none⟩ = some (.slice A4 n4 c4') := by rw [blk_cell hb0]; rfl
  have HB0 := Lib.hid hb0
  have HBS := Lib.hid hbase
  clear hb0 hbase hkb
  rw [hB]
  clear hB
  refine wp_region_fin' (by simp only [List.dropLast_cons_cons, List.dropLast_singleton]; exact rfl) (by simp only [List.getLast?_cons_cons, List.getLast?_singleton]; exact rfl) Kept pre_kept [([(2, none)], none), ([(2, none)], none), ([(14, some 1)], none), ([(15, some 2)], none), ([(16, some 3), (16, some 3)], none), ([(13, some 0), (17, some 4)], none), ([], none), ([(5, some 6), (18, some 5)], none)] (by kernel_rfl) 33 rfl (by kernel_rfl) (by kernel_rfl) rfl ?_
  apply go_val pre_kept
  · rintro ρ wr ⟨hg, hn, hc, hf, hgl⟩
    simp only [Need, fat, List.nil_append, List.cons_append, List.getD_cons_zero, List.getD_cons_succ, Fct.hold, and_true] at hn
    have hl := And.intro (hg.cell x0) (And.intro (hg.cell x1) (And.intro (hg.cell x2) (And.intro (hg.cell x3) (hg.cell x4))))
    refine ⟨by simp [wantP, hn], ?_⟩
    simp [execOp, hn, hc, hl, go_sem]
    exact rfl
  apply go_val pre_kept
  · rintro ρ wr ⟨hg, hn, hc, hf, hgl⟩
    simp only [Need, fat, List.nil_append, List.cons_append, List.getD_cons_zero, List.getD_cons_succ, Fct.hold, and_true] at hn
    refine ⟨by simp [wantP, hn], ?_⟩
    simp [execOp, hn, hc, go_sem]
    exact rfl
  apply go_val pre_kept
  · rintro ρ wr ⟨hg, hn, hc, hf, hgl⟩
    simp only [Need, fat, List.nil_append, List.cons_append, List.getD_cons_zero, List.getD_cons_succ, Fct.hold, and_true] at hn
    have hl := And.intro (hg.cell x0) (And.intro (hg.cell x1) (And.intro (hg.cell x2) (And.intro (hg.cell x3) (hg.cell x4))))
    refine ⟨by simp [wantP, hn], ?_⟩
    simp [execOp, hn, hc, hl, go_sem]
    exact rfl
  apply go_val pre_kept
  · rintro ρ wr ⟨hg, hn, hc, hf, hgl⟩
    simp only [Need, fat, List.nil_append, List.cons_append, List.getD_cons_zero, List.getD_cons_succ, Fct.hold, and_true] at hn
    refine ⟨by simp [wantP, hn], ?_⟩
    simp [execOp, hn, hc, go_sem]
    exact rfl
  refine go_any (p := fun v w' => ∃ q, v = .slice (some ⟨q, 0, none⟩) n n ∧ base ≤ q ∧ w'.heap[q]? = some (.cells Z 3)) (fun _ _ _ h ⟨q, h1, h2, h3⟩ => ⟨q, h1, h2, h.blk h3⟩) ?_ ?_
  · rintro ρ wr ⟨hg, hn, hc, hf, hgl⟩
    simp only [Need, fat, List.nil_append, List.cons_append, List.getD_cons_zero, List.getD_cons_succ, Fct.hold, and_true] at hn
    refine ⟨by simp [wantP, hn], ?_⟩
    simp only [execOp, Sem.run_bind, Sem.run_pure, Result.andThen_ok, hn, HMK.out, Ups]
    exact ⟨⟨_, rfl, HBA.out _ ((Kept.drew (Kept.refl _)).trans hg), blk_new _ _⟩, (Kept.refl _).alloc _⟩
  refine go_so pre_kept (p := fun v w' => ∃ q, v = .agg #[.slice AS n cS, .bool p.null, .slice A2 n2 c2, .slice A3 n3 c3, .slice A4 n4 c4', .int .i64 0, .slice none 0 0, .slice none 0 0, .slice (some ⟨q, 0, none⟩) n n] ∧ base ≤ q ∧ w'.heap[q]? = some (.cells Z 3)) (fun _ _ _ h ⟨q, h1, h2, h3⟩ => ⟨q, h1, h2, h.blk h3⟩) ?_ ?_
  · rintro ρ wr ⟨hg, hn, hc, hf, hgl⟩
    simp only [Need, fat, List.nil_append, List.cons_append, List.getD_cons_zero, List.getD_cons_succ, Fct.hold, and_true] at hn
    obtain ⟨h13, q, h17, hq1, hq2⟩ := hn
    refine ⟨by simp [wantP, h13, h17], _, by simp [execOp, h13, h17, hc, go_sem], q, rfl, hq1, hq2⟩
  refine go_any (p := fun v w' => ∃ q, v = .pointer (some ⟨q, 0, none⟩) ∧ base ≤ q ∧ w'.heap[q]? = some (.cells #[.slice none 0 0, .bool false, .slice none 0 0, .slice none 0 0, .slice none 0 0, .int .i64 0, .slice none 0 0, .slice none 0 0, .slice none 0 0] 82)) (fun _ _ _ h ⟨q, h1, h2, h3⟩ => ⟨q, h1, h2, h.blk h3⟩) ?_ ?_
  · rintro ρ wr ⟨hg, hn, hc, hf, hgl⟩
    simp only [Need, fat, List.nil_append, List.cons_append, List.getD_cons_zero, List.getD_cons_succ, Fct.hold, and_true] at hn
    refine ⟨by simp [wantP, hn], ?_⟩
    simp [execOp, hn, hc, go_sem, Ups]
    exact ⟨⟨HBA.out _ ((Kept.drew (Kept.refl _)).trans hg), Option.some.inj ((Array.getElem?_eq_getElem _).symm.trans (blk_new _ _))⟩, (Kept.refl _).alloc _⟩
  intro w2 hk2
  simp only [Post, List.nil_append, List.cons_append, Act.put, List.setIfInBounds_toArray, List.set_cons_zero, List.set_cons_succ]
  rintro u17 - v ⟨q, rfl, hqb, hq⟩ v ⟨b, rfl, hbb, hb⟩
  have hk3 := (Kept.drew (Kept.refl _)).trans hk2
  rw [← HZ.out] at hq
  have HPB : Hid (PosAt (· < base) w2 (.agg #[.slice AS n cS, .bool p.null, .slice A2 n2 c2, .slice A3 n3 c3, .slice A4 n4 c4']) p st) := Lib.hid (HP0.out.keep fun x hx _ => ⟨by rw [HBS.out]; exact Nat.lt_of_lt_of_le hx HKB.out.size, (HKB.out.trans hk3).block x hx⟩)
  have HT := Lib.hid (tks_new hb hq hbb hqb hn9 HNN.out HPB.out)
  have HK7 : Hid (Kept w1 (W9 w2 b (.slice AS n cS) p.null (.slice A2 n2 c2) (.slice A3 n3 c3) (.slice A4 n4 c4') (.slice (some ⟨q, 0, none⟩) n n))) := Lib.hid (W9_kept hk3 (by rw [← HBS.out]; exact hbb))
  have y0 : w2.cell? ⟨b, 0, none⟩ = some (.slice none 0 0) := by rw [blk_cell hb]; rfl
  have z0 : w2.frozen? ⟨b, 0, none⟩ = false := blk_free hb _
  have y1 : w2.cell? ⟨b, 1, none⟩ = some (.bool false) := by rw [blk_cell hb]; rfl
  have z1 : w2.frozen? ⟨b, 1, none⟩ = false := blk_free hb _
  have y2 : w2.cell? ⟨b, 2, none⟩ = some (.slice none 0 0) := by rw [blk_cell hb]; rfl
  have z2 : w2.frozen? ⟨b, 2, none⟩ = false := blk_free hb _
  have y3 : w2.cell? ⟨b, 3, none⟩ = some (.slice none 0 0) := by rw [blk_cell hb]; rfl
  have z3 : w2.frozen? ⟨b, 3, none⟩ = false := blk_free hb _
  have y4 : w2.cell? ⟨b, 4, none⟩ = some (.slice none 0 0) := by rw [blk_cell hb]; rfl
  have z4 : w2.frozen? ⟨b, 4, none⟩ = false := blk_free hb _
  have y5 : w2.cell? ⟨b, 5, none⟩ = some (.int .i64 0) := by rw [blk_cell hb]; rfl
  have z5 : w2.frozen? ⟨b, 5, none⟩ = false := blk_free hb _
  have y6 : w2.cell? ⟨b, 6, none⟩ = some (.slice none 0 0) := by rw [blk_cell hb]; rfl
  have z6 : w2.frozen? ⟨b, 6, none⟩ = false := blk_free hb _
  have y7 : w2.cell? ⟨b, 7, none⟩ = some (.slice none 0 0) := by rw [blk_cell hb]; rfl
  have z7 : w2.frozen? ⟨b, 7, none⟩ = false := blk_free hb _
  have y8 : w2.cell? ⟨b, 8, none⟩ = some (.slice none 0 0) := by rw [blk_cell hb]; rfl
  have z8 : w2.frozen? ⟨b, 8, none⟩ = false := blk_free hb _
  clear hk2 hk3 hq hb x0 x1 x2 x3 x4 HPB HMK HZ
  rename_i hK
  unfold Oper.wp execOp
  go_simp
  refine hK _ _ ?_
  clear hK y0 y1 y2 y3 y4 y5 y6 y7 y8 z0 z1 z2 z3 z4 z5 z6 z7 z8
  unfold W9 at HT HK7
  generalize (World.setCell _ _ (Value.slice (some ⟨q, 0, none⟩) n n)) = w7 at HT HK7 ⊢
  obtain ⟨bs, hbs'⟩ : ∃ bs, c :: r = bs := ⟨_, rfl⟩
  have HRT : Hid (runP st p 0 [] (List.replicate n 0) bs = takesP st p (c :: r)) := Lib.hid (by subst hbs'; unfold takesP; rw [HNN.out])
  obtain ⟨R, hRQ⟩ : ∃ R, takesP st p (c :: r) = R := ⟨_, rfl⟩
  rw [hRQ] at HRT
  have HRQ := Lib.hid hRQ
  clear hRQ
  rw [hbs'] at HB HMM
  clear hbs'
  go_wp2_with fail
  go_loopw [21] (fun vi wr => ∃ (j : Nat) (N M T : List Nat) (vn vs : Value), vi = .int .i64 j ∧ j ≤ m ∧ runP st p j N T (bs.drop j) = R ∧ TkS b base wr (.slice AS n cS) (.slice A2 n2 c2) (.slice A3 n3 c3) (.slice A4 n4 c4') p st j vn vs (.slice (some ⟨q, 0, none⟩) n n) N M T ∧ N.length ≤ 150 ∧ Kept w1 wr) (fun vi _ => m - (intOf vi).toNat)
  case atStart => exact ⟨0, [], [], _, _, _, rfl, Nat.zero_le _, HRT.out, HT.out, by simp, HK7.out⟩
  case round =>
    clear HRT HT HK7
    obtain ⟨j, N, M, T, vn, vs, rfl, hj, hr, hts, hnl, hkr⟩ := hrel
    have HR := Lib.hid hr
    have HT := Lib.hid hts
    have HK := Lib.hid hkr
    have HNL := Lib.hid hnl
    clear hr hts hkr hnl
    have hj0 : (0 : Int) ≤ j := by omega
    by_cases hlt : j < m
    · have hlti : (j : Int) < m := by omega
      have hjb : (j : Int) + 1 ≤ 9223372036854775807 := by omega
      obtain ⟨u, hu⟩ : ∃ u, bs[j]? = some u := ⟨_, List.getElem?_eq_getElem (by rw [HMM.out]; exact hlt)⟩
      have hbw := HB.out.keep (HKB.out.trans HK.out)
      obtain ⟨A', cap', eA, -, -, hcc⟩ := hbw
      injection eA with e1 e2 e3
      subst e1
      obtain ⟨ad, rfl, hcell⟩ := hcc j u hu
      unfold bv at hcell
      have hd : bs.drop j = u :: bs.drop (j + 1) := by
        obtain ⟨h1, h2⟩ := List.getElem?_eq_some_iff.1 hu
        rw [← h2]
        exact List.drop_eq_getElem_cons h1
      have hun := HR.out
      rw [hd, runP] at hun
      have HUN := Lib.hid hun
      clear hd hun HR hu hcc e2 e3
      go_wp2_with fail
      refine (step_any b base _ _ _ _ p st j vn vs _ N M T u.toNat (by have := u.toNat_lt; omega) wr HT.out HS.out HNL.out (by omega) _ (Lib.hid rfl)).mono ?_
      rintro e w5 ⟨rfl, v5, h5, hn5, hb5⟩
      have H5 := Lib.hid h5
      have HL5 : Hid ((stepP st.sets st.fol p.first j u.toNat N T).1.length ≤ 150) := Lib.hid (Nat.le_trans hn5.len (by rw [h5.len]; exact HS.out))
      have HK5 : Hid (Kept w1 w5) := Lib.hid (Below.trans HK.out (by rw [← HBS.out]; exact hb5))
      clear h5 hn5 hb5 hcell
      by_cases h0 : (stepP st.sets st.fol p.first j u.toNat N T).1.length = 0
      · have HF : Hid (R = false) := Lib.hid (by have := HUN.out; rw [if_pos h0] at this; exact this.symm)
        rw [h0]
        clear HUN h0
        go_wp2_with fail
        go_ret
        exact ⟨by rw [HRQ.out, HF.out]; rfl, HKB.out.trans HK5.out⟩
      · have HRN : Hid (runP st p (j + 1) (stepP st.sets st.fol p.first j u.toNat N T).1 (stepP st.sets st.fol p.first j u.toNat N T).2 (bs.drop (j + 1)) = R) := Lib.hid (by have := HUN.out; rw [if_neg h0] at this; exact this)
        have hpos : 0 < (stepP st.sets st.fol p.first j u.toNat N T).1.length := by omega
        rw [decide_eq_true hpos]
        clear HUN h0 hpos
        go_wp2_with fail
        go_roundw
        case rel => exact ⟨j + 1, _, _, _, _, _, by go_num, by omega, HRN.out, H5.out, HL5.out, HK5.out⟩
        case measure => simp [intOf]; omega
    · have hge : ¬ (j : Int) < m := by omega
      have hE : p.last.any (fun x => decide (T[x]? = some j)) = R := by rw [← HR.out, List.drop_eq_nil_of_le (by rw [HMM.out]; omega), runP]
      have HE := Lib.hid hE
      have hpo := HT.out.pos
      obtain ⟨vS, vf, vL, vF, hagg, -, -, hll, -⟩ := hpo
      simp only [Value.agg.injEq, Array.mk.injEq, List.cons.injEq, and_true, true_and] at hagg
      obtain ⟨rfl, rfl, rfl, rfl⟩ := hagg
      rw [← HN3.out] at hll
      have HLL := Lib.hid hll
      have hl9 : p.last.length ≤ 9223372036854775807 := by
        obtain ⟨A', cap', e, h1, h2, -⟩ := hll
        rw [ints_len] at h1
        unfold maxLen at h2
        omega
      have hb1 := HK.out.blk HB0.out
      have x3 : wr.cell? ⟨B, 3, none⟩ = some (.slice A3 n3 c3) := by rw [blk_cell hb1]; rfl
      clear hE HR hll hb1
      go_wp2_with fail
      have hcon := contains_any b base _ _ _ _ p st j vn vs _ N M T A3 c3 p.last wr HT.out HLL.out hl9
      rw [HN3.out] at hcon
      unfold isAtV ptr at hcon
      refine hcon.mono ?_
      rintro e w5 ⟨rfl, hk5⟩
      rw [HE.out]
      have HK5 := Lib.hid (HK.out.trans hk5)
      clear hcon hk5
      go_wp2_with fail
      go_ret
      exact ⟨by rw [HRQ.out]; rfl, HKB.out.trans HK5.out⟩
end Go.Proofs.Ytdbffbdpofodmaa
