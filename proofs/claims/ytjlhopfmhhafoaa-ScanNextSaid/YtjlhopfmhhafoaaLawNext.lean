/-
  For every value that reads as an automaton, all bytes and every place the law ScanNext returns true. Conditions: none.
-/
import Derived.Test.YtjlhopfmhhafoaaAlv
import Derived.Test.YtjlhopfmhhafoaaScanC
import Derived.Test.YtjlhopfmhhafoaaBy2
set_option linter.unusedSimpArgs false
namespace Go.Proofs.Ytjlhopfmhhafoaa
open Go Go.RowKit Kit
theorem Kit.Kept.undrew {w w' : World} (h : Kept w.drew w') : Kept w w' := (Kept.drew (Kept.refl _)).trans h
theorem info5 : ∃ i, Try.prog.info? 5 = some i ∧ i.zero = some (.int .u8 0) ∧ i.size = 1 ∧ i.bytes = 1 := by
  have h : (Try.prog.info? 5).map (fun i => (i.zero, i.size, i.bytes)) = some (some (.int .u8 0), 1, 1) := by kernel_rfl
  cases hi : Try.prog.info? 5 with
  | none => rw [hi] at h; cases h
  | some i =>
    rw [hi] at h
    simp only [Option.map_some, Option.some.injEq, Prod.mk.injEq] at h
    exact ⟨i, rfl, h.1, h.2.1, h.2.2⟩
set_option maxRecDepth 100000 in
set_option maxHeartbeats 4000000 in
theorem law_any (vn va : Value) (d : Dfa) (vs : List Value) (vb : Value) (b : List UInt8) (z : Int) (w : World) (h : DfaAt w vn va d vs) (hb : Bs w vb b) : Calls Try.prog 3 #[.agg #[vn, va], vb, .int .i64 z] w fun e w' => e = .returned (.bool true) ∧ Kept w w' := by
  have H := Lib.hid h
  have HB := Lib.hid hb
  obtain ⟨An, cn, rfl, hn⟩ := h.next.form
  obtain ⟨Aa, ca, rfl, ha⟩ := Ld.ints h.acc
  obtain ⟨Ab, cb, rfl⟩ := hb.form
  generalize vs.length = n at *
  generalize d.acc.length = a at *
  generalize hl : b.length = l at *
  have HL := Lib.hid hl
  clear h hb hn ha hl
  go_enter Try.func3, Try.ntmps3
  go_wp2_with fail
  refine (alive_any _).mono ?_
  rintro e w5 ⟨rfl, hk⟩
  have HK := Lib.hid (((Kept.refl w).alloc _).trans hk)
  have h3 := hk.blk (blk_new w _)
  have d0 := (blk_cell h3 0).trans (show _ = some (Value.slice An n cn) from rfl)
  have d1 := (blk_cell h3 1).trans (show _ = some (Value.slice Aa a ca) from rfl)
  clear h3 hk
  by_cases h1 : (l : Int) > 200
  · go_wp2_with fail
    go_ret
    exact ⟨rfl, HK.out⟩
  · by_cases h2 : (n : Int) > 30
    · go_wp2_with fail
      go_ret
      exact ⟨rfl, HK.out⟩
    · by_cases h4 : (a : Int) > 30
      · go_wp2_with fail
        go_ret
        exact ⟨rfl, HK.out⟩
      · have HBL : Hid (b.length ≤ 200) := Lib.hid (by have := HL.out; omega)
        go_wp2_with fail
        obtain ⟨r1, hr1⟩ : ∃ r, (d.scanAt b z).1 = r := ⟨_, rfl⟩
        obtain ⟨r2, hr2⟩ : ∃ r : Int, ((d.scanAt b z).2.1 : Int) = r := ⟨_, rfl⟩
        obtain ⟨r3, hr3⟩ : ∃ r : Int, ((d.scanAt b z).2.2 : Int) = r := ⟨_, rfl⟩
        have HR1 := Lib.hid hr1
        have HR2 := Lib.hid hr2
        have HR3 := Lib.hid hr3
        clear hr1 hr2 hr3
        generalize w.heap.size = g4 at d0 d1 ⊢
        refine wp_region_go Kept pre_kept [([(3, none)], none), ([(1, none)], none), ([(37, some 1)], none), ([(2, none)], none), ([(36, some 0), (38, some 2), (39, some 3)], none), ([(40, some 4)], none), ([(35, some 5)], none), ([(35, some 5)], none), ([(35, some 5)], none), ([(41, some 6)], none), ([(42, some 7)], none), ([(43, some 8)], none)] (by kernel_rfl) 65 rfl (by kernel_rfl) (by kernel_rfl) ?_
        apply go_val pre_kept
        · rintro ρ wr ⟨hg, hn, hc, hf, hgl⟩
          simp only [Need, fat, List.nil_append, List.cons_append, List.getD_cons_zero, List.getD_cons_succ, Fct.hold, and_true] at hn
          have hl := And.intro (hg.cell d0) (hg.cell d1)
          refine ⟨by simp [wantP, hn], ?_⟩
          simp [execOp, hn, hc, hl, go_sem]
          exact rfl
        apply go_val pre_kept
        · rintro ρ wr ⟨hg, hn, hc, hf, hgl⟩
          simp only [Need, fat, List.nil_append, List.cons_append, List.getD_cons_zero, List.getD_cons_succ, Fct.hold, and_true] at hn
          refine ⟨by simp [wantP, hn], ?_⟩
          simp [execOp, hn, hc, go_sem]
          exact rfl
        refine go_any (p := fun u w' => Bs w' u b) (fun _ _ _ h k => k.keep h) ?_ ?_
        · rintro ρ wr ⟨hg, hn, hc, hf, hgl⟩
          simp only [Need, fat, List.nil_append, List.cons_append, List.getD_cons_zero, List.getD_cons_succ, Fct.hold, and_true] at hn
          refine ⟨by simp [wantP], ?_⟩
          obtain ⟨i0, hi5, hz5, hs5, hb5⟩ := info5
          obtain ⟨v', w', hr, hp, hk⟩ := run_fresh (P := Try.prog) wr 26 26 5 i0 _ Try.underlying26 hi5 hz5 hs5 hb5 rfl (.slice Ab l cb) b (HB.out.keep (HK.out.trans hg.undrew)) (by have := HBL.out; omega)
          simp only [execOp, resolve, invoke, builtin, Sem.run_bind, Sem.run_pure, Result.andThen_ok, List.map_toArray, List.map_cons, List.map_nil, hn, hc, hr, Ups]
          exact ⟨hp, hk⟩
        apply go_val pre_kept
        · rintro ρ wr ⟨hg, hn, hc, hf, hgl⟩
          simp only [Need, fat, List.nil_append, List.cons_append, List.getD_cons_zero, List.getD_cons_succ, Fct.hold, and_true] at hn
          refine ⟨by simp [wantP, hn], ?_⟩
          simp [execOp, hn, hc, go_sem]
          exact rfl
        apply go_callv (x := .tuple #[.int .i64 r1, .int .i64 r2, .int .i64 r3])
        · rintro ρ wr ⟨hg, hn, hc, hf, hgl⟩
          simp only [Need, fat, List.nil_append, List.cons_append, List.getD_cons_zero, List.getD_cons_succ, Fct.hold, and_true] at hn
          obtain ⟨hn1, hn2, hn3⟩ := hn
          refine ⟨by simp [wantP], _, _, by simp [execOp, hn1, hn2, hn3, hf, hc, resolve, invoke, go_sem]; exact ⟨rfl, rfl⟩, ?_⟩
          have hh := next_any _ _ d vs _ b z wr (H.out.kept (HK.out.trans hg.undrew)) hn2 (by have := HBL.out; omega)
          rw [HR1.out, HR2.out, HR3.out] at hh
          exact hh.mono fun e w' ⟨h1, h2⟩ => ⟨_, h1, rfl, h2⟩
        apply go_val pre_kept
        · rintro ρ wr ⟨hg, hn, hc, hf, hgl⟩
          simp only [Need, fat, List.nil_append, List.cons_append, List.getD_cons_zero, List.getD_cons_succ, Fct.hold, and_true] at hn
          refine ⟨by simp [wantP, hn], ?_⟩
          simp [execOp, hn, hc, go_sem]
          exact rfl
        apply go_val (x := .int .i64 r1) pre_kept
        · rintro ρ wr ⟨hg, hn, hc, hf, hgl⟩
          simp only [Need, fat, List.nil_append, List.cons_append, List.getD_cons_zero, List.getD_cons_succ, Fct.hold, and_true] at hn
          refine ⟨by simp [wantP, hn], ?_⟩
          simp [execOp, hn, hc, go_sem]
        apply go_val (x := .int .i64 r2) pre_kept
        · rintro ρ wr ⟨hg, hn, hc, hf, hgl⟩
          simp only [Need, fat, List.nil_append, List.cons_append, List.getD_cons_zero, List.getD_cons_succ, Fct.hold, and_true] at hn
          refine ⟨by simp [wantP, hn], ?_⟩
          simp [execOp, hn, hc, go_sem]
        apply go_val (x := .int .i64 r3) pre_kept
        · rintro ρ wr ⟨hg, hn, hc, hf, hgl⟩
          simp only [Need, fat, List.nil_append, List.cons_append, List.getD_cons_zero, List.getD_cons_succ, Fct.hold, and_true] at hn
          refine ⟨by simp [wantP, hn], ?_⟩
          simp [execOp, hn, hc, go_sem]
        apply go_val pre_kept
        · rintro ρ wr ⟨hg, hn, hc, hf, hgl⟩
          simp only [Need, fat, List.nil_append, List.cons_append, List.getD_cons_zero, List.getD_cons_succ, Fct.hold, and_true] at hn
          refine ⟨by simp [wantP, hn], ?_⟩
          simp [execOp, hn, hc, go_sem]
          exact rfl
        apply go_val pre_kept
        · rintro ρ wr ⟨hg, hn, hc, hf, hgl⟩
          simp only [Need, fat, List.nil_append, List.cons_append, List.getD_cons_zero, List.getD_cons_succ, Fct.hold, and_true] at hn
          refine ⟨by simp [wantP, hn], ?_⟩
          simp [execOp, hn, hc, go_sem]
          exact rfl
        apply go_val pre_kept
        · rintro ρ wr ⟨hg, hn, hc, hf, hgl⟩
          simp only [Need, fat, List.nil_append, List.cons_append, List.getD_cons_zero, List.getD_cons_succ, Fct.hold, and_true] at hn
          refine ⟨by simp [wantP, hn], ?_⟩
          simp [execOp, hn, hc, go_sem]
          exact rfl
        intro w2 hk2
        simp only [Post, List.nil_append, List.cons_append, Act.put, List.setIfInBounds_toArray, List.set_cons_zero, List.set_cons_succ]
        have hk3 := hk2.undrew
        have D0 := hk3.cell d0
        have D1 := hk3.cell d1
        replace HK := Lib.hid (HK.out.trans hk3)
        clear d0 d1 hk2 hk3
        intro u hu
        clear hu
        rename_i hK
        refine hK _ _ ?_
        clear hK
        go_wp2_with fail
        have hh := rscan_any _ _ d vs _ b z w2 (H.out.kept HK.out) (HB.out.keep HK.out) (by have := HBL.out; omega)
        rw [HR1.out, HR2.out, HR3.out] at hh
        refine hh.mono ?_
        rintro e w7 ⟨rfl, hk7⟩
        have HK7 := Lib.hid (HK.out.trans hk7)
        clear hk7 hh D0 D1
        go_wp2_with fail
        go_ret
        exact ⟨rfl, HK7.out⟩
end Go.Proofs.Ytjlhopfmhhafoaa
