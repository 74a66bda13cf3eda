/-
  The writer of package regex at a pattern that is a set of one byte. Conditions: none.
-/
import Derived.Test.YtpnmcinbohdmhaaShow1
import Derived.Lib.AppendStr
set_option linter.unusedSimpArgs false
namespace Go.Proofs.Ytpnmcinbohdmhaa
open Go Go.RowKit Kit
theorem info61 : ∃ i, Try.prog.info? 61 = some i ∧ i.zero = some (.agg #[.pointer none, .string ⟨#[]⟩]) ∧ i.size = 2 ∧ i.bytes = 24 := by
  have h : (Try.prog.info? 61).map (fun i => (i.zero, i.size, i.bytes)) = some (some (.agg #[.pointer none, .string ⟨#[]⟩]), 2, 24) := by kernel_rfl
  cases hi : Try.prog.info? 61 with
  | none => rw [hi] at h; cases h
  | some i =>
    rw [hi] at h
    simp only [Option.map_some, Option.some.injEq, Prod.mk.injEq] at h
    exact ⟨i, rfl, h.1, h.2.1, h.2.2⟩
theorem info5 : ∃ i, Try.prog.info? 5 = some i ∧ i.zero = some (.int .u8 0) ∧ i.size = 1 ∧ i.bytes = 1 := by
  have h : (Try.prog.info? 5).map (fun i => (i.zero, i.size, i.bytes)) = some (some (.int .u8 0), 1, 1) := by kernel_rfl
  cases hi : Try.prog.info? 5 with
  | none => rw [hi] at h; cases h
  | some i =>
    rw [hi] at h
    simp only [Option.map_some, Option.some.injEq, Prod.mk.injEq] at h
    exact ⟨i, rfl, h.1, h.2.1, h.2.2⟩
theorem app_str (w : World) (s : ByteArray) (hs : s.size ≤ 2) : ∃ v' w', (Builtin.append_ #[41, 9] 41 #[.slice none 0 0, .string s]).run Try.prog w = .ok v' w' ∧ Bs w' v' s.data.toList ∧ Kept w w' := by
  obtain ⟨i0, hi, hz, hsz, hby⟩ := info5
  have hm : maxLen = 9223372036854775807 := rfl
  obtain ⟨v', w', hr, h1, h2, _⟩ := Lib.run_append_own_string (P := Try.prog) w (w.heap.size) 41 9 41 5 i0 (by kernel_rfl) (by kernel_rfl) hi hz hsz hby (.slice none 0 0) 0 [] (World.ownsRow_nil w _ 5 1) s (by rw [hm]; omega) (by omega) (Nat.le_refl _)
  refine ⟨v', w', hr, Bs.of_own (base := w.heap.size) (e := 5) (n := 0 + s.size) ?_, Kept.of_grown (by simpa [Value.ownBlock] using h2)⟩
  have e : ([] ++ Lib.strCells s) = s.data.toList.map bv := rfl
  rw [e] at h1
  exact h1
theorem app_piece (w : World) (k : Nat) (p t : Value) (h0 : w.cell? ⟨k, 0, none⟩ = some p) (h1 : w.cell? ⟨k, 1, none⟩ = some t) (hp : p.oneCell' = true) (ht : t.oneCell' = true) : ∃ v' w', (Builtin.append_ #[55, 55] 55 #[.slice none 0 0, .slice (some ⟨k, 0, none⟩) 1 1]).run Try.prog w = .ok v' w' ∧ (∃ q cap, v' = .slice (some ⟨q, 0, none⟩) 1 cap ∧ 1 ≤ cap ∧ w'.cell? ⟨q, 0, none⟩ = some p ∧ w'.cell? ⟨q, 1, none⟩ = some t) ∧ Kept w w' := by
  obtain ⟨i0, hi, hz, hsz, hby⟩ := info61
  have hm : maxLen = 9223372036854775807 := rfl
  have hadd : ∀ (q j : Nat), (⟨q, 0, none⟩ : Addr).add j = ⟨q, j, none⟩ := fun q j => by unfold Addr.add; split <;> simp_all
  obtain ⟨v', w', hr, hown, hgr, _, _⟩ := run_append_own_at (P := Try.prog) w w.heap.size 55 55 61 i0 _ 2 24 (by kernel_rfl) hi hz hsz hby rfl (by omega) (.slice none 0 0) 0 [] (World.ownsRow_nil _ _ _ _) ⟨k, 0, none⟩ 1 1 [p, t] rfl (fun j u hj => by
    rw [hadd]
    match j, hj with
    | 0, hj => simp at hj; subst hj; exact h0
    | 1, hj => simp at hj; subst hj; exact h1) (fun u hu => by simp at hu; rcases hu with rfl | rfl <;> assumption) (by rw [hm]; omega) (by omega) (Nat.le_refl _)
  refine ⟨v', w', hr, ?_, Kept.of_grown (by simpa [Value.ownBlock] using hgr)⟩
  rcases hown.2 with ⟨_, h⟩ | ⟨q, cap, cur, rfl, hq, hh, hc, _⟩
  · simp at h
  · have c0 := hown.cells (g := q) rfl 0 p rfl
    have c1 := hown.cells (g := q) rfl 1 t rfl
    rw [hadd] at c0 c1
    exact ⟨q, cap, rfl, by simpa using hc, c0, c1⟩
theorem ups_ok {P : Program} {R : Value → World → Prop} {r : Result Next} {v : Value} {w' : World} (h : r = .ok (.value v) w') (hR : R v w') : Ups P R r := by rw [h]; exact hR
theorem stab_piece (p t : Value) : ∀ (u : Value) (w w' : World), Kept w w' → (∃ q cap, u = .slice (some ⟨q, 0, none⟩) 1 cap ∧ 1 ≤ cap ∧ w.cell? ⟨q, 0, none⟩ = some p ∧ w.cell? ⟨q, 1, none⟩ = some t) → (∃ q cap, u = .slice (some ⟨q, 0, none⟩) 1 cap ∧ 1 ≤ cap ∧ w'.cell? ⟨q, 0, none⟩ = some p ∧ w'.cell? ⟨q, 1, none⟩ = some t) :=
  fun _u _w _w' h ⟨q, cap, h1, h2, h3, h4⟩ => ⟨q, cap, h1, h2, h.cell h3, h.cell h4⟩
theorem stab_one (p t : Value) : ∀ (u : Value) (w w' : World), Kept w w' → (∃ k, u = .slice (some ⟨k, 0, none⟩) 1 1 ∧ w.cell? ⟨k, 0, none⟩ = some p ∧ w.cell? ⟨k, 1, none⟩ = some t) → (∃ k, u = .slice (some ⟨k, 0, none⟩) 1 1 ∧ w'.cell? ⟨k, 0, none⟩ = some p ∧ w'.cell? ⟨k, 1, none⟩ = some t) :=
  fun _u _w _w' h ⟨k, h1, h3, h4⟩ => ⟨k, h1, h.cell h3, h.cell h4⟩
set_option maxRecDepth 100000 in
set_option maxHeartbeats 2000000 in
theorem push_any (A B : Nat) (w : World) (hb : w.heap[B]? = some (.cells #[.slice none 0 0, .slice none 0 0] 57 (0, 0))) : Calls Try.prog 21 #[.pointer (some ⟨B, 0, none⟩), .agg #[.pointer (some ⟨A, 0, none⟩), .string ⟨#[]⟩]] w fun e w' => e = .returned (.tuple #[]) ∧ ∃ q cap, 1 ≤ cap ∧ w'.heap[B]? = some (.cells #[.slice none 0 0, .slice (some ⟨q, 0, none⟩) 1 cap] 57 (0, 0)) ∧ q ≠ B ∧ w'.cell? ⟨q, 0, none⟩ = some (.pointer (some ⟨A, 0, none⟩)) ∧ w'.cell? ⟨q, 1, none⟩ = some (.string ⟨#[]⟩) ∧ Gr B w w' := by
  have HB := Lib.hid hb
  clear hb
  go_enter Try.func21, Try.ntmps21
  go_wp2
  obtain ⟨h0, hk⟩ := alloc1 w (.cells #[.pointer (some ⟨A, 0, none⟩), .string ⟨#[]⟩] 61)
  have hB1 := hk.blk HB.out
  have HK := Lib.hid hk
  clear hk
  generalize w.alloc _ = w1 at h0 hB1 HK ⊢
  obtain ⟨⟨e0, e1⟩, -⟩ := box2 h0
  obtain ⟨⟨b0, b1⟩, -⟩ := box2 hB1
  have HB1 := Lib.hid hB1
  clear h0 hB1
  refine wp_region_fin' (by simp only [List.dropLast_cons_cons, List.dropLast_singleton]; exact rfl) (by simp only [List.getLast?_cons_cons, List.getLast?_singleton]; exact rfl) Kept pre_kept [([(0, none)], none), ([(0, none)], none), ([(5, some 1)], none), ([(6, some 2)], none), ([(7, some 3)], none), ([(3, none)], none), ([(9, some 5)], none), ([(8, some 4), (10, some 6)], none), ([(4, some 0)], none), ([(12, some 8)], none), ([(13, some 9), (11, some 7)], none)] (by kernel_rfl) 14 rfl (by kernel_rfl) (by kernel_rfl) rfl ?_
  apply go_val pre_kept
  · rintro ρ wr ⟨hg, hn, hc, hf, hgl⟩
    simp only [Need, fat, List.nil_append, List.cons_append, List.getD_cons_zero, List.getD_cons_succ, Fct.hold, and_true] at hn
    refine ⟨by simp [wantP, hn], ?_⟩
    simp [execOp, hn, hc, go_sem]
    exact rfl
  apply go_val pre_kept
  · rintro ρ wr ⟨hg, hn, hc, hf, hgl⟩
    simp only [Need, fat, List.nil_append, List.cons_append, List.getD_cons_zero, List.getD_cons_succ, Fct.hold, and_true] at hn
    refine ⟨by simp [wantP, hn], ?_⟩
    simp [execOp, hn, hc, go_sem]
    exact rfl
  apply go_val pre_kept
  · rintro ρ wr ⟨hg, hn, hc, hf, hgl⟩
    simp only [Need, fat, List.nil_append, List.cons_append, List.getD_cons_zero, List.getD_cons_succ, Fct.hold, and_true] at hn
    refine ⟨by simp [wantP, hn], ?_⟩
    simp [execOp, hn, hc, go_sem]
    exact rfl
  apply go_val pre_kept
  · rintro ρ wr ⟨hg, hn, hc, hf, hgl⟩
    simp only [Need, fat, List.nil_append, List.cons_append, List.getD_cons_zero, List.getD_cons_succ, Fct.hold, and_true] at hn
    refine ⟨by simp [wantP, hn], ?_⟩
    simp [execOp, hn, hc, go_sem]
    exact rfl
  apply go_val pre_kept
  · rintro ρ wr ⟨hg, hn, hc, hf, hgl⟩
    simp only [Need, fat, List.nil_append, List.cons_append, List.getD_cons_zero, List.getD_cons_succ, Fct.hold, and_true] at hn
    have hl := And.intro (hg.cell b1) (And.intro (hg.cell e0) (hg.cell e1))
    refine ⟨by simp [wantP, hn], ?_⟩
    simp [execOp, hn, hc, hl, go_sem]
    exact rfl
  apply go_val pre_kept
  · rintro ρ wr ⟨hg, hn, hc, hf, hgl⟩
    simp only [Need, fat, List.nil_append, List.cons_append, List.getD_cons_zero, List.getD_cons_succ, Fct.hold, and_true] at hn
    have hl := And.intro (hg.cell b1) (And.intro (hg.cell e0) (hg.cell e1))
    refine ⟨by simp [wantP, hn], ?_⟩
    simp [execOp, hn, hc, hl, go_sem]
    exact rfl
  refine go_any (p := fun u w' => ∃ k, u = .slice (some ⟨k, 0, none⟩) 1 1 ∧ w'.cell? ⟨k, 0, none⟩ = some (.pointer (some ⟨A, 0, none⟩)) ∧ w'.cell? ⟨k, 1, none⟩ = some (.string ⟨#[]⟩)) (stab_one _ _) ?_ ?_
  · rintro ρ wr ⟨hg, hn, hc, hf, hgl⟩
    simp only [Need, fat, List.nil_append, List.cons_append, List.getD_cons_zero, List.getD_cons_succ, Fct.hold, and_true] at hn
    refine ⟨by simp [wantP], ?_⟩
    obtain ⟨h0, hk⟩ := alloc1 wr (.cells #[.pointer (some ⟨A, 0, none⟩), .string ⟨#[]⟩] 61)
    obtain ⟨⟨e0, e1⟩, -⟩ := box2 h0
    exact ups_ok (v := .slice (some ⟨wr.heap.size, 0, none⟩) 1 1) (w' := wr.alloc (.cells #[.pointer (some ⟨A, 0, none⟩), .string ⟨#[]⟩] 61)) (by simp [execOp, hn, hc, go_sem]) ⟨⟨_, rfl, e0, e1⟩, hk⟩
  refine go_any (p := fun u w' => ∃ q cap, u = .slice (some ⟨q, 0, none⟩) 1 cap ∧ 1 ≤ cap ∧ w'.cell? ⟨q, 0, none⟩ = some (.pointer (some ⟨A, 0, none⟩)) ∧ w'.cell? ⟨q, 1, none⟩ = some (.string ⟨#[]⟩)) (stab_piece _ _) ?_ ?_
  · rintro ρ wr ⟨hg, hn, hc, hf, hgl⟩
    simp only [Need, fat, List.nil_append, List.cons_append, List.getD_cons_zero, List.getD_cons_succ, Fct.hold, and_true] at hn
    obtain ⟨hn1, kk, hn2, e0, e1⟩ := hn
    refine ⟨by simp [wantP], ?_⟩
    obtain ⟨v', w', hr, hp, hk⟩ := app_piece wr kk _ _ e0 e1 rfl rfl
    simp only [execOp, resolve, invoke, builtin, Sem.run_bind, Sem.run_pure, Result.andThen_ok, List.map_toArray, List.map_cons, List.map_nil, hn1, hn2, hr, Ups]
    exact ⟨hp, hk⟩
  apply go_val pre_kept
  · rintro ρ wr ⟨hg, hn, hc, hf, hgl⟩
    simp only [Need, fat, List.nil_append, List.cons_append, List.getD_cons_zero, List.getD_cons_succ, Fct.hold, and_true] at hn
    refine ⟨by simp [wantP, hn], ?_⟩
    simp [execOp, hn, hc, go_sem]
    exact rfl
  apply go_val pre_kept
  · rintro ρ wr ⟨hg, hn, hc, hf, hgl⟩
    simp only [Need, fat, List.nil_append, List.cons_append, List.getD_cons_zero, List.getD_cons_succ, Fct.hold, and_true] at hn
    refine ⟨by simp [wantP, hn], ?_⟩
    simp [execOp, hn, hc, go_sem]
    exact rfl
  intro w2 hk2
  simp only [Post, List.nil_append, List.cons_append, Act.put, List.setIfInBounds_toArray, List.set_cons_zero, List.set_cons_succ]
  rintro u10 h10 u11 ⟨q, cap, rfl, hcap, c0, c1⟩
  have hk2 := (Kept.drew (Kept.refl _)).trans hk2
  have hB2 := hk2.blk HB1.out
  obtain ⟨⟨d0, d1⟩, f0, f1⟩ := box2 hB2
  have hqB : q ≠ B := by
    rintro rfl
    rw [d0] at c0
    cases c0
  have HB2 := Lib.hid hB2
  have HK2 := Lib.hid (HK.out.trans hk2)
  have HC := Lib.hid (And.intro c0 c1)
  clear h10 hk2 hB2 c0 c1 e0 e1 b0 b1
  unfold Oper.wp execOp
  go_simp
  try (go_wp2_with fail)
  go_end0
  refine ⟨rfl, q, cap, hcap, ?_, hqB, ?_, ?_, ?_⟩
  · have := HB2.out
    simp [World.setCell, Array.getElem?_modify, this]
  · rw [World.cell?_setCell_other _ _ _ _ (fun e => hqB (by injection e with e; exact e.symm))]; exact HC.out.1
  · rw [World.cell?_setCell_other _ _ _ _ (fun e => hqB (by injection e with e; exact e.symm))]; exact HC.out.2
  · exact (HK2.out.gr B).set (.inl rfl) _
theorem showT_size (c : UInt8) : (showT c).size ≤ 2 := by
  unfold showT
  split
  · show 2 ≤ 2; omega
  · show 1 ≤ 2; omega
set_option maxRecDepth 100000 in
set_option maxHeartbeats 2000000 in
theorem write_any (X : BitVec 256) (c : UInt8) (hX : ∀ i, X.getLsbD i = decide (i = c.toNat)) (A B : Nat) (sl wk : Value) (w : World) (ha : w.heap[A]? = some (.cells #[.int .i64 1, .int .u64 (wdN X 0), .int .u64 (wdN X 1), .int .u64 (wdN X 2), .int .u64 (wdN X 3), sl] 27 (0, 0))) (hb : w.heap[B]? = some (.cells #[.slice none 0 0, wk] 57 (0, 0))) :
    Calls Try.prog 28 #[.pointer (some ⟨B, 0, none⟩), .pointer (some ⟨A, 0, none⟩)] w fun e w' => e = .returned (.tuple #[]) ∧ ∃ A1 n1 c1, w'.heap[B]? = some (.cells #[.slice A1 n1 c1, wk] 57 (0, 0)) ∧ Bs w' (.slice A1 n1 c1) (showT c).data.toList ∧ Gr B w w' := by
  have HX := Lib.hid hX
  have HA := Lib.hid ha
  have HB := Lib.hid hb
  obtain ⟨⟨a0, a1, a2, a3, a4, a5⟩, -⟩ := box6 ha
  obtain ⟨⟨b0, b1⟩, -⟩ := box2 hb
  clear hX ha hb
  go_enter Try.func28, Try.ntmps28
  go_wp2_with fail
  refine (kind_set A _ _ _ _ _ w HA.out).mono ?_
  rintro e w1 ⟨rfl, rfl⟩
  go_wp2_with fail
  refine wp_region_fin' (by simp only [List.dropLast_cons_cons, List.dropLast_singleton]; exact rfl) (by simp only [List.getLast?_cons_cons, List.getLast?_singleton]; exact rfl) Kept pre_kept [([(0, none)], none), ([(0, none)], none), ([(11, some 1)], none), ([(12, some 2)], none), ([(13, some 3)], none), ([(1, none)], none), ([(15, some 5)], none), ([(16, some 6)], none), ([(17, some 7)], none), ([(18, some 8)], none), ([(14, some 4), (19, some 9)], none), ([(10, some 0)], none), ([(21, some 11)], none), ([(22, some 12), (20, some 10)], none)] (by kernel_rfl) 71 rfl (by kernel_rfl) (by kernel_rfl) rfl ?_
  apply go_val pre_kept
  · rintro ρ wr ⟨hg, hn, hc, hf, hgl⟩
    simp only [Need, fat, List.nil_append, List.cons_append, List.getD_cons_zero, List.getD_cons_succ, Fct.hold, and_true] at hn
    refine ⟨by simp [wantP, hn], ?_⟩
    simp [execOp, hn, hc, go_sem]
    exact rfl
  apply go_val pre_kept
  · rintro ρ wr ⟨hg, hn, hc, hf, hgl⟩
    simp only [Need, fat, List.nil_append, List.cons_append, List.getD_cons_zero, List.getD_cons_succ, Fct.hold, and_true] at hn
    refine ⟨by simp [wantP, hn], ?_⟩
    simp [execOp, hn, hc, go_sem]
    exact rfl
  apply go_val pre_kept
  · rintro ρ wr ⟨hg, hn, hc, hf, hgl⟩
    simp only [Need, fat, List.nil_append, List.cons_append, List.getD_cons_zero, List.getD_cons_succ, Fct.hold, and_true] at hn
    refine ⟨by simp [wantP, hn], ?_⟩
    simp [execOp, hn, hc, go_sem]
    exact rfl
  apply go_val pre_kept
  · rintro ρ wr ⟨hg, hn, hc, hf, hgl⟩
    simp only [Need, fat, List.nil_append, List.cons_append, List.getD_cons_zero, List.getD_cons_succ, Fct.hold, and_true] at hn
    refine ⟨by simp [wantP, hn], ?_⟩
    simp [execOp, hn, hc, go_sem]
    exact rfl
  apply go_val pre_kept
  · rintro ρ wr ⟨hg, hn, hc, hf, hgl⟩
    simp only [Need, fat, List.nil_append, List.cons_append, List.getD_cons_zero, List.getD_cons_succ, Fct.hold, and_true] at hn
    have hl := And.intro (hg.cell b0) (And.intro (hg.cell a1) (And.intro (hg.cell a2) (And.intro (hg.cell a3) (hg.cell a4))))
    refine ⟨by simp [wantP, hn], ?_⟩
    simp [execOp, hn, hc, hl, go_sem]
    exact rfl
  apply go_val pre_kept
  · rintro ρ wr ⟨hg, hn, hc, hf, hgl⟩
    simp only [Need, fat, List.nil_append, List.cons_append, List.getD_cons_zero, List.getD_cons_succ, Fct.hold, and_true] at hn
    refine ⟨by simp [wantP, hn], ?_⟩
    simp [execOp, hn, hc, go_sem]
    exact rfl
  apply go_val pre_kept
  · rintro ρ wr ⟨hg, hn, hc, hf, hgl⟩
    simp only [Need, fat, List.nil_append, List.cons_append, List.getD_cons_zero, List.getD_cons_succ, Fct.hold, and_true] at hn
    refine ⟨by simp [wantP, hn], ?_⟩
    simp [execOp, hn, hc, go_sem]
    exact rfl
  apply go_val pre_kept
  · rintro ρ wr ⟨hg, hn, hc, hf, hgl⟩
    simp only [Need, fat, List.nil_append, List.cons_append, List.getD_cons_zero, List.getD_cons_succ, Fct.hold, and_true] at hn
    refine ⟨by simp [wantP, hn], ?_⟩
    simp [execOp, hn, hc, go_sem]
    exact rfl
  apply go_val pre_kept
  · rintro ρ wr ⟨hg, hn, hc, hf, hgl⟩
    simp only [Need, fat, List.nil_append, List.cons_append, List.getD_cons_zero, List.getD_cons_succ, Fct.hold, and_true] at hn
    have hl := And.intro (hg.cell b0) (And.intro (hg.cell a1) (And.intro (hg.cell a2) (And.intro (hg.cell a3) (hg.cell a4))))
    refine ⟨by simp [wantP, hn], ?_⟩
    simp [execOp, hn, hc, hl, go_sem]
    exact rfl
  apply go_callv (x := .string (showT c))
  · rintro ρ wr ⟨hg, hn, hc, hf, hgl⟩
    simp only [Need, fat, List.nil_append, List.cons_append, List.getD_cons_zero, List.getD_cons_succ, Fct.hold, and_true] at hn
    refine ⟨by simp [wantP, hn], _, _, by simp [execOp, hn, hf, hc, resolve, invoke, go_sem]; exact ⟨rfl, rfl⟩, ?_⟩
    exact (showSet_any X c HX.out _).mono fun e w' ⟨h1, h2⟩ => ⟨_, h1, rfl, h2⟩
  refine go_any (p := fun u w' => Bs w' u (showT c).data.toList) (fun _ _ _ h k => k.keep h) ?_ ?_
  · rintro ρ wr ⟨hg, hn, hc, hf, hgl⟩
    simp only [Need, fat, List.nil_append, List.cons_append, List.getD_cons_zero, List.getD_cons_succ, Fct.hold, and_true] at hn
    obtain ⟨hn1, hn2⟩ := hn
    refine ⟨by simp [wantP], ?_⟩
    obtain ⟨v', w', hr, hp, hk⟩ := app_str wr (showT c) (showT_size c)
    simp only [execOp, resolve, invoke, builtin, Sem.run_bind, Sem.run_pure, Result.andThen_ok, List.map_toArray, List.map_cons, List.map_nil, hn1, hn2, hr, Ups]
    exact ⟨hp, hk⟩
  apply go_val pre_kept
  · rintro ρ wr ⟨hg, hn, hc, hf, hgl⟩
    simp only [Need, fat, List.nil_append, List.cons_append, List.getD_cons_zero, List.getD_cons_succ, Fct.hold, and_true] at hn
    refine ⟨by simp [wantP, hn], ?_⟩
    simp [execOp, hn, hc, go_sem]
    exact rfl
  apply go_val pre_kept
  · rintro ρ wr ⟨hg, hn, hc, hf, hgl⟩
    simp only [Need, fat, List.nil_append, List.cons_append, List.getD_cons_zero, List.getD_cons_succ, Fct.hold, and_true] at hn
    refine ⟨by simp [wantP, hn], ?_⟩
    simp [execOp, hn, hc, go_sem]
    exact rfl
  intro w2 hk2
  simp only [Post, List.nil_append, List.cons_append, Act.put, List.setIfInBounds_toArray, List.set_cons_zero, List.set_cons_succ]
  rintro u20 hbs
  have hk2 := (Kept.drew (Kept.refl _)).trans hk2
  have hB2 := hk2.blk HB.out
  obtain ⟨⟨d0, d1⟩, f0, f1⟩ := box2 hB2
  have HB2 := Lib.hid hB2
  have HK2 := Lib.hid hk2
  obtain ⟨A1, c1, rfl⟩ := hbs.form
  have HS := Lib.hid hbs
  clear hbs hk2 hB2 a0 a1 a2 a3 a4 a5 b0 b1
  unfold Oper.wp execOp
  go_simp
  try (go_wp2_with fail)
  go_end0
  refine ⟨rfl, A1, _, c1, ?_, HS.out.set d0 (fun c => by simp [bv]) _, (HK2.out.gr B).set (.inl rfl) _⟩
  have := HB2.out
  simp [World.setCell, Array.getElem?_modify, this]
end Go.Proofs.Ytpnmcinbohdmhaa
