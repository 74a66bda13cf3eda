/-
  What the document's walk over a pattern makes of repeats and of a set; the walk whole. Conditions: there are at most 150 places.
-/
import Derived.Test.YtdbffbdpofodmaaRwk
set_option linter.unusedSimpArgs false
namespace Go.Proofs.Ytdbffbdpofodmaa
open Go Go.RowKit Kit
set_option maxRecDepth 100000 in
set_option maxHeartbeats 16000000 in
theorem rwalk_one4 (g : Nat) (w : World) (op : Int) (x : BitVec 256) (kids : List Rx) (A : Option Addr) (cap : Nat) (vS vF : Value) (fs : List Value) (st : Ps) (hx : RxAt (· < g) w (rx6 op x (.slice A kids.length cap)) (.mk op x kids)) (hkl : kids.length ≤ 9223372036854775807) (hm : StM g w vS vF fs st) (hok : Ok st) (IH : ∀ y ∈ kids, WkAny g y) (ho : op = 4) (y : Rx) (hy : kids[0]? = some y) (hS : st.sets.length + cnt y ≤ 150) (R : Pt × Ps) (HR : Hid (wk1 4 kids st = R)) : Calls Try.prog 24 #[ptr g, rx6 op x (.slice A kids.length cap)] w (WkSaid g (own2 vS vF) R w) := by
  have H := Lib.hid (((Ws.start hm).alloc (.cells #[.int .i64 op, .int .u64 (wdN x 0), .int .u64 (wdN x 1), .int .u64 (wdN x 2), .int .u64 (wdN x 3), .slice A kids.length cap] 26)).alloc (.cells #[.bool false, .slice none 0 0, .slice none 0 0] 73))
  have hK0 : Kept w ((w.alloc (.cells #[.int .i64 op, .int .u64 (wdN x 0), .int .u64 (wdN x 1), .int .u64 (wdN x 2), .int .u64 (wdN x 3), .slice A kids.length cap] 26)).alloc (.cells #[.bool false, .slice none 0 0, .slice none 0 0] 73)) := ((Kept.refl _).alloc _).alloc _
  have HX := Lib.hid (hx.kept hK0)
  have hgw := blk_lt hm.obj
  have hlt : 0 < kids.length := (List.getElem?_eq_some_iff.1 hy).1
  have hki : ¬ (kids.length : Int) = 0 := by omega
  have hkb : ((kids.length : Int) == 0) = false := by simpa using hki
  have hlti : (0 : Int) < kids.length := by omega
  simp only [World.size_alloc] at H
  have hwk := wk_ok y st hok
  obtain ⟨⟨⟨qn, qf, ql⟩, st2⟩, hq⟩ : ∃ q, wk y st = q := ⟨_, rfl⟩
  have hun : wk1 4 kids st = R := HR.out
  obtain ⟨rest, hrest⟩ : ∃ rest, kids = y :: rest := by
    match kids, hy with
    | a :: rest, hy => simp only [List.getElem?_cons_zero, Option.some.injEq] at hy; exact ⟨rest, by rw [hy]⟩
  rw [hrest, wk1] at hun
  have hcall0 := fun w' u' vS' vF' fs' h1 h2 => IH y (List.mem_of_getElem? hy) w' u' vS' vF' fs' st h1 h2 hok hS
  rw [hq] at hwk hun hcall0
  obtain ⟨hok2, hs2, hq2⟩ := hwk
  simp only at hok2 hs2 hq2 hun
  have HUP : Hid (OkP st2.sets.length ⟨qn, qf, ql⟩) := Lib.hid (by rw [hs2]; exact hq2)
  have HOK2 := Lib.hid hok2
  have hst2 : st2.sets.length ≤ 150 := by omega
  have HRN := Lib.hid hun
  have HC0 := Lib.hid hcall0
  obtain ⟨p, o, rfl, -, e0, e1, e2, e3, e4, e5, C0, C1, C2, C3, C4, C5, hry⟩ := hx.kid hy
  have HCALL := Lib.hid (hcall0 _ _ _ _ _ (hry.kept hK0) H.out.m)
  simp only [Nat.zero_mul, Nat.add_zero] at C0 C1 C2 C3 C4 C5
  have hpg := World.block_lt_of_cell? w _ C0
  simp only at hpg
  clear hx hm hok hK0 hq hun hok2 hs2 hq2 hcall0 hrest hry HX
  subst ho
  unfold ptr at *
  unfold rx6
  go_enter Try.func24, Try.ntmps24
  go_wp2_with fail
  clear C0 C1 C2 C3 C4 C5 hpg
  generalize (w.alloc _).alloc _ = W at H HCALL ⊢
  obtain ⟨B, hB⟩ : ∃ B, w.heap.size = B := ⟨_, rfl⟩
  rw [hB] at H hgw ⊢
  obtain ⟨r, hrr⟩ : ∃ r, B + 1 = r := ⟨_, rfl⟩
  rw [hrr] at H ⊢
  refine HCALL.out.mono ?_
  rintro e w5 ⟨vqf, vql, vS5, vF5, fs5, rfl, hqf, hql, hm5, hv5⟩
  simp only at hqf hql hm5 ⊢
  obtain ⟨A3, c3, rfl⟩ := hqf.form
  obtain ⟨A4, c4, rfl⟩ := hql.form
  rw [ints_len] at hqf hql
  simp only [ints_len]
  replace H := Lib.hid (H.out.step hm5 hv5)
  have HQF := Lib.hid hqf
  have HQL := Lib.hid hql
  clear HCALL hm5 hv5 hqf hql
  obtain ⟨K, hK⟩ : ∃ K, w5.heap.size = K := ⟨_, rfl⟩
  have hrb := blk_lt (H.out.blk (r := r) (.head _))
  have hBb := blk_lt (H.out.blk (r := B) (.tail _ (.head _)))
  have hrK : r < K := by omega
  have hBK : B < K := by omega
  have hkk : Kept w5 (w5.alloc (.cells #[.bool qn, .slice A3 qf.length c3, .slice A4 ql.length c4] 73)) := (Kept.refl _).alloc _
  obtain ⟨⟨a0, a1, a2, a3, a4, a5⟩, -⟩ := box6 (H.out.blk (r := B) (.tail _ (.head _)))
  obtain ⟨⟨d0, d1, d2⟩, g0, g1, g2⟩ := PB.lay (H.out.blk (r := r) (.head _))
  replace H := Lib.hid (H.out.alloc (.cells #[.bool qn, .slice A3 qf.length c3, .slice A4 ql.length c4] 73))
  rw [hK] at H
  replace HQF := Lib.hid (HQF.out.kept hkk)
  replace HQL := Lib.hid (HQL.out.kept hkk)
  clear hkk hrb hBb
  go_wp2_with fail
  clear a0 a1 a2 a3 a4 a5 d0 d1 d2 g0 g1 g2 hK
  generalize w5.alloc _ = w6 at H HQF HQL ⊢
  refine (rlink_any g vS5 vF5 fs5 st2 _ _ ql qf w6 H.out.m HOK2.out hst2 HQL.out HQF.out HUP.out.2 HUP.out.1).mono ?_
  rintro e w7 ⟨rfl, fs7, hm7, hv7⟩
  replace HQF := Lib.hid (hv7.ls HQF.out)
  replace HQL := Lib.hid (hv7.ls HQL.out)
  replace H := Lib.hid (H.out.step hm7 hv7)
  clear hm7 hv7
  obtain ⟨⟨k0, k1, k2⟩, q0, q1, q2⟩ := PB.lay (H.out.blk (r := K) (.head _))
  obtain ⟨⟨d0, d1, d2⟩, g0, g1, g2⟩ := PB.lay (H.out.blk (r := r) (.tail _ (.head _)))
  obtain ⟨⟨a0, a1, a2, a3, a4, a5⟩, -⟩ := box6 (H.out.blk (r := B) (.tail _ (.tail _ (.head _))))
  have hbk := H.out.blk (r := K) (.head _)
  replace HQF := Lib.hid (HQF.out.side hbk 0 (.bool true))
  replace HQL := Lib.hid (HQL.out.side hbk 0 (.bool true))
  replace H := Lib.hid (H.out.put0 (b' := true) (fun q hq => by
    simp only [List.mem_cons, List.not_mem_nil, or_false] at hq
    rcases hq with rfl | rfl <;> (simp only []; omega)))
  clear hbk
  replace H := Lib.hid (H.out.sub (bs' := [(r, PB false none 0 0 none 0 0)]) (fun q hq => by rw [List.mem_singleton.1 hq]; exact .tail _ (.head _)))
  have hb0 := H.out.blk List.mem_cons_self
  have H1 := Lib.hid (H.out.put0 (b' := true) (by simp))
  have hb1 := H1.out.blk List.mem_cons_self
  have H2 := Lib.hid (H1.out.put1 (A := A3) (n := qf.length) (c := c3) (by simp))
  have hb2 := H2.out.blk List.mem_cons_self
  have H3 := Lib.hid (H2.out.put2 (A := A4) (n := ql.length) (c := c4) (by simp))
  have HF := Lib.hid (((HQF.out.side hb0 0 (.bool true)).side hb1 1 (.slice A3 qf.length c3)).side hb2 2 (.slice A4 ql.length c4))
  have HL := Lib.hid (((HQL.out.side hb0 0 (.bool true)).side hb1 1 (.slice A3 qf.length c3)).side hb2 2 (.slice A4 ql.length c4))
  clear hb0 hb1 hb2 H H1 H2 HQF HQL
  go_wp2_with fail
  refine bodyPost_ret (v := .agg #[.bool true, .slice A3 qf.length c3, .slice A4 ql.length c4]) ?_ rfl ?_
  · simp [results, Try.results24, go_sem, d0, d1, d2]
  · rw [← HRN.out]
    exact ⟨_, _, vS5, vF5, fs7, rfl, HF.out, HL.out, H3.out.m, H3.out.v⟩
set_option maxRecDepth 100000 in
set_option maxHeartbeats 16000000 in
theorem rwalk_one5 (g : Nat) (w : World) (op : Int) (x : BitVec 256) (kids : List Rx) (A : Option Addr) (cap : Nat) (vS vF : Value) (fs : List Value) (st : Ps) (hx : RxAt (· < g) w (rx6 op x (.slice A kids.length cap)) (.mk op x kids)) (hkl : kids.length ≤ 9223372036854775807) (hm : StM g w vS vF fs st) (hok : Ok st) (IH : ∀ y ∈ kids, WkAny g y) (ho : op = 5) (y : Rx) (hy : kids[0]? = some y) (hS : st.sets.length + cnt y ≤ 150) (R : Pt × Ps) (HR : Hid (wk1 5 kids st = R)) : Calls Try.prog 24 #[ptr g, rx6 op x (.slice A kids.length cap)] w (WkSaid g (own2 vS vF) R w) := by
  have H := Lib.hid (((Ws.start hm).alloc (.cells #[.int .i64 op, .int .u64 (wdN x 0), .int .u64 (wdN x 1), .int .u64 (wdN x 2), .int .u64 (wdN x 3), .slice A kids.length cap] 26)).alloc (.cells #[.bool false, .slice none 0 0, .slice none 0 0] 73))
  have hK0 : Kept w ((w.alloc (.cells #[.int .i64 op, .int .u64 (wdN x 0), .int .u64 (wdN x 1), .int .u64 (wdN x 2), .int .u64 (wdN x 3), .slice A kids.length cap] 26)).alloc (.cells #[.bool false, .slice none 0 0, .slice none 0 0] 73)) := ((Kept.refl _).alloc _).alloc _
  have HX := Lib.hid (hx.kept hK0)
  have hgw := blk_lt hm.obj
  have hlt : 0 < kids.length := (List.getElem?_eq_some_iff.1 hy).1
  have hki : ¬ (kids.length : Int) = 0 := by omega
  have hkb : ((kids.length : Int) == 0) = false := by simpa using hki
  have hlti : (0 : Int) < kids.length := by omega
  simp only [World.size_alloc] at H
  have hwk := wk_ok y st hok
  obtain ⟨⟨⟨qn, qf, ql⟩, st2⟩, hq⟩ : ∃ q, wk y st = q := ⟨_, rfl⟩
  have hun : wk1 5 kids st = R := HR.out
  obtain ⟨rest, hrest⟩ : ∃ rest, kids = y :: rest := by
    match kids, hy with
    | a :: rest, hy => simp only [List.getElem?_cons_zero, Option.some.injEq] at hy; exact ⟨rest, by rw [hy]⟩
  rw [hrest, wk1] at hun
  have hcall0 := fun w' u' vS' vF' fs' h1 h2 => IH y (List.mem_of_getElem? hy) w' u' vS' vF' fs' st h1 h2 hok hS
  rw [hq] at hwk hun hcall0
  obtain ⟨hok2, hs2, hq2⟩ := hwk
  simp only at hok2 hs2 hq2 hun
  have HUP : Hid (OkP st2.sets.length ⟨qn, qf, ql⟩) := Lib.hid (by rw [hs2]; exact hq2)
  have HOK2 := Lib.hid hok2
  have hst2 : st2.sets.length ≤ 150 := by omega
  have HRN := Lib.hid hun
  have HC0 := Lib.hid hcall0
  obtain ⟨p, o, rfl, -, e0, e1, e2, e3, e4, e5, C0, C1, C2, C3, C4, C5, hry⟩ := hx.kid hy
  have HCALL := Lib.hid (hcall0 _ _ _ _ _ (hry.kept hK0) H.out.m)
  simp only [Nat.zero_mul, Nat.add_zero] at C0 C1 C2 C3 C4 C5
  have hpg := World.block_lt_of_cell? w _ C0
  simp only at hpg
  clear hx hm hok hK0 hq hun hok2 hs2 hq2 hcall0 hrest hry HX
  subst ho
  unfold ptr at *
  unfold rx6
  go_enter Try.func24, Try.ntmps24
  go_wp2_with fail
  clear C0 C1 C2 C3 C4 C5 hpg
  generalize (w.alloc _).alloc _ = W at H HCALL ⊢
  obtain ⟨B, hB⟩ : ∃ B, w.heap.size = B := ⟨_, rfl⟩
  rw [hB] at H hgw ⊢
  obtain ⟨r, hrr⟩ : ∃ r, B + 1 = r := ⟨_, rfl⟩
  rw [hrr] at H ⊢
  refine HCALL.out.mono ?_
  rintro e w5 ⟨vqf, vql, vS5, vF5, fs5, rfl, hqf, hql, hm5, hv5⟩
  simp only at hqf hql hm5 ⊢
  obtain ⟨A3, c3, rfl⟩ := hqf.form
  obtain ⟨A4, c4, rfl⟩ := hql.form
  rw [ints_len] at hqf hql
  simp only [ints_len]
  replace H := Lib.hid (H.out.step hm5 hv5)
  have HQF := Lib.hid hqf
  have HQL := Lib.hid hql
  clear HCALL hm5 hv5 hqf hql
  obtain ⟨K, hK⟩ : ∃ K, w5.heap.size = K := ⟨_, rfl⟩
  have hrb := blk_lt (H.out.blk (r := r) (.head _))
  have hBb := blk_lt (H.out.blk (r := B) (.tail _ (.head _)))
  have hrK : r < K := by omega
  have hBK : B < K := by omega
  have hkk : Kept w5 (w5.alloc (.cells #[.bool qn, .slice A3 qf.length c3, .slice A4 ql.length c4] 73)) := (Kept.refl _).alloc _
  obtain ⟨⟨a0, a1, a2, a3, a4, a5⟩, -⟩ := box6 (H.out.blk (r := B) (.tail _ (.head _)))
  obtain ⟨⟨d0, d1, d2⟩, g0, g1, g2⟩ := PB.lay (H.out.blk (r := r) (.head _))
  replace H := Lib.hid (H.out.alloc (.cells #[.bool qn, .slice A3 qf.length c3, .slice A4 ql.length c4] 73))
  rw [hK] at H
  replace HQF := Lib.hid (HQF.out.kept hkk)
  replace HQL := Lib.hid (HQL.out.kept hkk)
  clear hkk hrb hBb
  go_wp2_with fail
  clear a0 a1 a2 a3 a4 a5 d0 d1 d2 g0 g1 g2 hK
  generalize w5.alloc _ = w6 at H HQF HQL ⊢
  refine (rlink_any g vS5 vF5 fs5 st2 _ _ ql qf w6 H.out.m HOK2.out hst2 HQL.out HQF.out HUP.out.2 HUP.out.1).mono ?_
  rintro e w7 ⟨rfl, fs7, hm7, hv7⟩
  replace HQF := Lib.hid (hv7.ls HQF.out)
  replace HQL := Lib.hid (hv7.ls HQL.out)
  replace H := Lib.hid (H.out.step hm7 hv7)
  clear hm7 hv7
  obtain ⟨⟨k0, k1, k2⟩, q0, q1, q2⟩ := PB.lay (H.out.blk (r := K) (.head _))
  obtain ⟨⟨d0, d1, d2⟩, g0, g1, g2⟩ := PB.lay (H.out.blk (r := r) (.tail _ (.head _)))
  obtain ⟨⟨a0, a1, a2, a3, a4, a5⟩, -⟩ := box6 (H.out.blk (r := B) (.tail _ (.tail _ (.head _))))
  replace H := Lib.hid (H.out.sub (bs' := [(r, PB false none 0 0 none 0 0)]) (fun q hq => by rw [List.mem_singleton.1 hq]; exact .tail _ (.head _)))
  have hb0 := H.out.blk List.mem_cons_self
  have H1 := Lib.hid (H.out.put0 (b' := qn) (by simp))
  have hb1 := H1.out.blk List.mem_cons_self
  have H2 := Lib.hid (H1.out.put1 (A := A3) (n := qf.length) (c := c3) (by simp))
  have hb2 := H2.out.blk List.mem_cons_self
  have H3 := Lib.hid (H2.out.put2 (A := A4) (n := ql.length) (c := c4) (by simp))
  have HF := Lib.hid (((HQF.out.side hb0 0 (.bool qn)).side hb1 1 (.slice A3 qf.length c3)).side hb2 2 (.slice A4 ql.length c4))
  have HL := Lib.hid (((HQL.out.side hb0 0 (.bool qn)).side hb1 1 (.slice A3 qf.length c3)).side hb2 2 (.slice A4 ql.length c4))
  clear hb0 hb1 hb2 H H1 H2 HQF HQL
  go_wp2_with fail
  refine bodyPost_ret (v := .agg #[.bool qn, .slice A3 qf.length c3, .slice A4 ql.length c4]) ?_ rfl ?_
  · simp [results, Try.results24, go_sem, d0, d1, d2]
  · rw [← HRN.out]
    exact ⟨_, _, vS5, vF5, fs7, rfl, HF.out, HL.out, H3.out.m, H3.out.v⟩
set_option maxRecDepth 100000 in
set_option maxHeartbeats 16000000 in
theorem rwalk_one6 (g : Nat) (w : World) (op : Int) (x : BitVec 256) (kids : List Rx) (A : Option Addr) (cap : Nat) (vS vF : Value) (fs : List Value) (st : Ps) (hx : RxAt (· < g) w (rx6 op x (.slice A kids.length cap)) (.mk op x kids)) (hkl : kids.length ≤ 9223372036854775807) (hm : StM g w vS vF fs st) (hok : Ok st) (IH : ∀ y ∈ kids, WkAny g y) (ho : op = 6) (y : Rx) (hy : kids[0]? = some y) (hS : st.sets.length + cnt y ≤ 150) (R : Pt × Ps) (HR : Hid (wk1 6 kids st = R)) : Calls Try.prog 24 #[ptr g, rx6 op x (.slice A kids.length cap)] w (WkSaid g (own2 vS vF) R w) := by
  have H := Lib.hid (((Ws.start hm).alloc (.cells #[.int .i64 op, .int .u64 (wdN x 0), .int .u64 (wdN x 1), .int .u64 (wdN x 2), .int .u64 (wdN x 3), .slice A kids.length cap] 26)).alloc (.cells #[.bool false, .slice none 0 0, .slice none 0 0] 73))
  have hK0 : Kept w ((w.alloc (.cells #[.int .i64 op, .int .u64 (wdN x 0), .int .u64 (wdN x 1), .int .u64 (wdN x 2), .int .u64 (wdN x 3), .slice A kids.length cap] 26)).alloc (.cells #[.bool false, .slice none 0 0, .slice none 0 0] 73)) := ((Kept.refl _).alloc _).alloc _
  have HX := Lib.hid (hx.kept hK0)
  have hgw := blk_lt hm.obj
  have hlt : 0 < kids.length := (List.getElem?_eq_some_iff.1 hy).1
  have hki : ¬ (kids.length : Int) = 0 := by omega
  have hkb : ((kids.length : Int) == 0) = false := by simpa using hki
  have hlti : (0 : Int) < kids.length := by omega
  simp only [World.size_alloc] at H
  have hwk := wk_ok y st hok
  obtain ⟨⟨⟨qn, qf, ql⟩, st2⟩, hq⟩ : ∃ q, wk y st = q := ⟨_, rfl⟩
  have hun : wk1 6 kids st = R := HR.out
  obtain ⟨rest, hrest⟩ : ∃ rest, kids = y :: rest := by
    match kids, hy with
    | a :: rest, hy => simp only [List.getElem?_cons_zero, Option.some.injEq] at hy; exact ⟨rest, by rw [hy]⟩
  rw [hrest, wk1] at hun
  have hcall0 := fun w' u' vS' vF' fs' h1 h2 => IH y (List.mem_of_getElem? hy) w' u' vS' vF' fs' st h1 h2 hok hS
  rw [hq] at hwk hun hcall0
  obtain ⟨hok2, hs2, hq2⟩ := hwk
  simp only at hok2 hs2 hq2 hun
  have HUP : Hid (OkP st2.sets.length ⟨qn, qf, ql⟩) := Lib.hid (by rw [hs2]; exact hq2)
  have HOK2 := Lib.hid hok2
  have hst2 : st2.sets.length ≤ 150 := by omega
  have HRN := Lib.hid hun
  have HC0 := Lib.hid hcall0
  obtain ⟨p, o, rfl, -, e0, e1, e2, e3, e4, e5, C0, C1, C2, C3, C4, C5, hry⟩ := hx.kid hy
  have HCALL := Lib.hid (hcall0 _ _ _ _ _ (hry.kept hK0) H.out.m)
  simp only [Nat.zero_mul, Nat.add_zero] at C0 C1 C2 C3 C4 C5
  have hpg := World.block_lt_of_cell? w _ C0
  simp only at hpg
  clear hx hm hok hK0 hq hun hok2 hs2 hq2 hcall0 hrest hry HX
  subst ho
  unfold ptr at *
  unfold rx6
  go_enter Try.func24, Try.ntmps24
  go_wp2_with fail
  clear C0 C1 C2 C3 C4 C5 hpg
  generalize (w.alloc _).alloc _ = W at H HCALL ⊢
  obtain ⟨B, hB⟩ : ∃ B, w.heap.size = B := ⟨_, rfl⟩
  rw [hB] at H hgw ⊢
  obtain ⟨r, hrr⟩ : ∃ r, B + 1 = r := ⟨_, rfl⟩
  rw [hrr] at H ⊢
  refine HCALL.out.mono ?_
  rintro e w5 ⟨vqf, vql, vS5, vF5, fs5, rfl, hqf, hql, hm5, hv5⟩
  simp only at hqf hql hm5 ⊢
  obtain ⟨A3, c3, rfl⟩ := hqf.form
  obtain ⟨A4, c4, rfl⟩ := hql.form
  rw [ints_len] at hqf hql
  simp only [ints_len]
  replace H := Lib.hid (H.out.step hm5 hv5)
  have HQF := Lib.hid hqf
  have HQL := Lib.hid hql
  clear HCALL hm5 hv5 hqf hql
  obtain ⟨K, hK⟩ : ∃ K, w5.heap.size = K := ⟨_, rfl⟩
  have hrb := blk_lt (H.out.blk (r := r) (.head _))
  have hBb := blk_lt (H.out.blk (r := B) (.tail _ (.head _)))
  have hrK : r < K := by omega
  have hBK : B < K := by omega
  have hkk : Kept w5 (w5.alloc (.cells #[.bool qn, .slice A3 qf.length c3, .slice A4 ql.length c4] 73)) := (Kept.refl _).alloc _
  obtain ⟨⟨a0, a1, a2, a3, a4, a5⟩, -⟩ := box6 (H.out.blk (r := B) (.tail _ (.head _)))
  obtain ⟨⟨d0, d1, d2⟩, g0, g1, g2⟩ := PB.lay (H.out.blk (r := r) (.head _))
  clear hkk
  replace H := Lib.hid (H.out.sub (bs' := [(r, PB false none 0 0 none 0 0)]) (fun q hq => by rw [List.mem_singleton.1 hq]; exact .head _))
  have hb0 := H.out.blk List.mem_cons_self
  have H1 := Lib.hid (H.out.put0 (b' := true) (by simp))
  have hb1 := H1.out.blk List.mem_cons_self
  have H2 := Lib.hid (H1.out.put1 (A := A3) (n := qf.length) (c := c3) (by simp))
  have hb2 := H2.out.blk List.mem_cons_self
  have H3 := Lib.hid (H2.out.put2 (A := A4) (n := ql.length) (c := c4) (by simp))
  have HF := Lib.hid (((HQF.out.side hb0 0 (.bool true)).side hb1 1 (.slice A3 qf.length c3)).side hb2 2 (.slice A4 ql.length c4))
  have HL := Lib.hid (((HQL.out.side hb0 0 (.bool true)).side hb1 1 (.slice A3 qf.length c3)).side hb2 2 (.slice A4 ql.length c4))
  clear hb0 hb1 hb2 H H1 H2 HQF HQL
  go_wp2_with fail
  refine bodyPost_ret (v := .agg #[.bool true, .slice A3 qf.length c3, .slice A4 ql.length c4]) ?_ rfl ?_
  · simp [results, Try.results24, go_sem, d0, d1, d2, hrb]
  · rw [← HRN.out]
    have hkk : ∀ o, Kept (((w5.setCell ⟨r, 0, none⟩ (.bool true)).setCell ⟨r, 1, none⟩ (.slice A3 qf.length c3)).setCell ⟨r, 2, none⟩ (.slice A4 ql.length c4)) ((((w5.setCell ⟨r, 0, none⟩ (.bool true)).setCell ⟨r, 1, none⟩ (.slice A3 qf.length c3)).setCell ⟨r, 2, none⟩ (.slice A4 ql.length c4)).alloc o) := fun o => (Kept.refl _).alloc o
    exact ⟨_, _, vS5, vF5, fs5, rfl, HF.out.kept (hkk _), HL.out.kept (hkk _), (H3.out.kept (hkk _)).m, (H3.out.kept (hkk _)).v⟩
end Go.Proofs.Ytdbffbdpofodmaa
