/-
  For every text and all bytes the law PositTakes returns true. Conditions: none.
-/
import Derived.Test.YtdbffbdpofodmaaAlv
import Derived.Test.YtdbffbdpofodmaaDp
import Derived.Test.YtdbffbdpofodmaaRtk
import Derived.Test.YtdbffbdpofodmaaTakes
import Derived.Test.YtdbffbdpofodmaaRParse
import Derived.Test.YtdbffbdpofodmaaRpos
import Derived.Test.YtdbffbdpofodmaaBy2
set_option linter.unusedSimpArgs false
namespace Go.Proofs.Ytdbffbdpofodmaa
open Go Go.RowKit Kit
set_option maxRecDepth 100000 in
set_option maxHeartbeats 4000000 in
theorem ltk_wrong (s : ByteArray) (A : Option Addr) (m cap : Nat) (bs : List UInt8) (w : World) (x : Re) (at0 er : Nat) (HP : Hid (parseP s = (x, at0, er))) (HB : Hid (Bs w (.slice A m cap) bs)) (_hm : bs.length = m) (he : (er : Int) ≠ 0) : Calls Try.prog 4 #[.string s, .slice A m cap] w fun e w' => e = .returned (.bool true) ∧ Kept w w' := by
  go_enter Try.func4, Try.ntmps4
  go_wp2_with fail
  refine (alive_any w).mono ?_
  rintro e w1 ⟨rfl, hk⟩
  replace HB := Lib.hid (HB.out.keep hk)
  have HK := Lib.hid hk
  clear hk
  go_wp2_with fail
  refine (RParse_any s w1).mono ?_
  rw [HP.out]
  rintro e w2 ⟨u, rfl, hx, hk⟩
  obtain ⟨o1, s1, A1, n1, p1, rfl⟩ := hx.form
  have HX := Lib.hid ((RxAt.ofRe hx).kept ((Kept.refl _).alloc (.cells #[.int .i64 o1, .int .u64 (wdN s1 0), .int .u64 (wdN s1 1), .int .u64 (wdN s1 2), .int .u64 (wdN s1 3), .slice A1 n1 p1] 26)))
  have HB1 := Lib.hid (blk_new w2 (.cells #[.int .i64 o1, .int .u64 (wdN s1 0), .int .u64 (wdN s1 1), .int .u64 (wdN s1 2), .int .u64 (wdN s1 3), .slice A1 n1 p1] 26))
  replace HB := Lib.hid ((HB.out.keep hk).keep ((Kept.refl _).alloc (.cells #[.int .i64 o1, .int .u64 (wdN s1 0), .int .u64 (wdN s1 1), .int .u64 (wdN s1 2), .int .u64 (wdN s1 3), .slice A1 n1 p1] 26)))
  replace HK := Lib.hid ((HK.out.trans hk).alloc (.cells #[.int .i64 o1, .int .u64 (wdN s1 0), .int .u64 (wdN s1 1), .int .u64 (wdN s1 2), .int .u64 (wdN s1 3), .slice A1 n1 p1] 26))
  have hz : (w2.alloc (.cells #[.int .i64 o1, .int .u64 (wdN s1 0), .int .u64 (wdN s1 1), .int .u64 (wdN s1 2), .int .u64 (wdN s1 3), .slice A1 n1 p1] 26)).heap.size = w2.heap.size + 1 := by simp
  clear hk hx
  simp only [re6_form] at HX ⊢
  go_wp2_with fail
  go_ret
  exact ⟨rfl, HK.out⟩
set_option maxRecDepth 100000 in
set_option maxHeartbeats 4000000 in
theorem ltk_long (s : ByteArray) (A : Option Addr) (m cap : Nat) (bs : List UInt8) (w : World) (x : Re) (at0 er : Nat) (HP : Hid (parseP s = (x, at0, er))) (HB : Hid (Bs w (.slice A m cap) bs)) (_hm : bs.length = m) (he : er = 0) (hi : (60 : Int) < m) : Calls Try.prog 4 #[.string s, .slice A m cap] w fun e w' => e = .returned (.bool true) ∧ Kept w w' := by
  subst he
  go_enter Try.func4, Try.ntmps4
  go_wp2_with fail
  refine (alive_any w).mono ?_
  rintro e w1 ⟨rfl, hk⟩
  replace HB := Lib.hid (HB.out.keep hk)
  have HK := Lib.hid hk
  clear hk
  go_wp2_with fail
  refine (RParse_any s w1).mono ?_
  rw [HP.out]
  rintro e w2 ⟨u, rfl, hx, hk⟩
  obtain ⟨o1, s1, A1, n1, p1, rfl⟩ := hx.form
  have HX := Lib.hid ((RxAt.ofRe hx).kept ((Kept.refl _).alloc (.cells #[.int .i64 o1, .int .u64 (wdN s1 0), .int .u64 (wdN s1 1), .int .u64 (wdN s1 2), .int .u64 (wdN s1 3), .slice A1 n1 p1] 26)))
  have HB1 := Lib.hid (blk_new w2 (.cells #[.int .i64 o1, .int .u64 (wdN s1 0), .int .u64 (wdN s1 1), .int .u64 (wdN s1 2), .int .u64 (wdN s1 3), .slice A1 n1 p1] 26))
  replace HB := Lib.hid ((HB.out.keep hk).keep ((Kept.refl _).alloc (.cells #[.int .i64 o1, .int .u64 (wdN s1 0), .int .u64 (wdN s1 1), .int .u64 (wdN s1 2), .int .u64 (wdN s1 3), .slice A1 n1 p1] 26)))
  replace HK := Lib.hid ((HK.out.trans hk).alloc (.cells #[.int .i64 o1, .int .u64 (wdN s1 0), .int .u64 (wdN s1 1), .int .u64 (wdN s1 2), .int .u64 (wdN s1 3), .slice A1 n1 p1] 26))
  have hz : (w2.alloc (.cells #[.int .i64 o1, .int .u64 (wdN s1 0), .int .u64 (wdN s1 1), .int .u64 (wdN s1 2), .int .u64 (wdN s1 3), .slice A1 n1 p1] 26)).heap.size = w2.heap.size + 1 := by simp
  clear hk hx
  simp only [re6_form] at HX ⊢
  go_wp2_with fail
  go_ret
  exact ⟨rfl, HK.out⟩
set_option maxRecDepth 100000 in
set_option maxHeartbeats 4000000 in
theorem ltk_none (s : ByteArray) (A : Option Addr) (m cap : Nat) (bs : List UInt8) (w : World) (x : Re) (at0 er : Nat) (HP : Hid (parseP s = (x, at0, er))) (HB : Hid (Bs w (.slice A m cap) bs)) (hm : bs.length = m) (he : er = 0) (hi : (m : Int) ≤ 60) (hc : 150 < cnt x.rx) : Calls Try.prog 4 #[.string s, .slice A m cap] w fun e w' => e = .returned (.bool true) ∧ Kept w w' := by
  subst he
  go_enter Try.func4, Try.ntmps4
  go_wp2_with fail
  refine (alive_any w).mono ?_
  rintro e w1 ⟨rfl, hk⟩
  replace HB := Lib.hid (HB.out.keep hk)
  have HK := Lib.hid hk
  clear hk
  go_wp2_with fail
  refine (RParse_any s w1).mono ?_
  rw [HP.out]
  rintro e w2 ⟨u, rfl, hx, hk⟩
  obtain ⟨o1, s1, A1, n1, p1, rfl⟩ := hx.form
  have HX := Lib.hid ((RxAt.ofRe hx).kept ((Kept.refl _).alloc (.cells #[.int .i64 o1, .int .u64 (wdN s1 0), .int .u64 (wdN s1 1), .int .u64 (wdN s1 2), .int .u64 (wdN s1 3), .slice A1 n1 p1] 26)))
  have HB1 := Lib.hid (blk_new w2 (.cells #[.int .i64 o1, .int .u64 (wdN s1 0), .int .u64 (wdN s1 1), .int .u64 (wdN s1 2), .int .u64 (wdN s1 3), .slice A1 n1 p1] 26))
  replace HB := Lib.hid ((HB.out.keep hk).keep ((Kept.refl _).alloc (.cells #[.int .i64 o1, .int .u64 (wdN s1 0), .int .u64 (wdN s1 1), .int .u64 (wdN s1 2), .int .u64 (wdN s1 3), .slice A1 n1 p1] 26)))
  replace HK := Lib.hid ((HK.out.trans hk).alloc (.cells #[.int .i64 o1, .int .u64 (wdN s1 0), .int .u64 (wdN s1 1), .int .u64 (wdN s1 2), .int .u64 (wdN s1 3), .slice A1 n1 p1] 26))
  have hz : (w2.alloc (.cells #[.int .i64 o1, .int .u64 (wdN s1 0), .int .u64 (wdN s1 1), .int .u64 (wdN s1 2), .int .u64 (wdN s1 3), .slice A1 n1 p1] 26)).heap.size = w2.heap.size + 1 := by simp
  clear hk hx
  simp only [re6_form] at HX ⊢
  go_wp2_with fail
  generalize w2.alloc _ = w3 at HX HB HK HB1 hz ⊢
  refine (Posits_any w3 _ x.rx HX.out (by have := dp_parse s; rw [HP.out] at this; exact Nat.le_trans this (by decide))).mono ?_
  rintro e w4 ⟨q1, q2, q3, hk⟩
  obtain rfl := q1 hc
  clear q1 q2 q3
  replace HK := Lib.hid ((HK.out.trans hk).alloc (.cells #[.slice none 0 0, .bool false, .slice none 0 0, .slice none 0 0, .slice none 0 0] 33))
  simp only [zpos]
  go_wp2_with fail
  go_ret
  exact ⟨rfl, HK.out⟩
set_option maxRecDepth 100000 in
set_option maxHeartbeats 4000000 in
theorem ltk_deep (s : ByteArray) (A : Option Addr) (m cap : Nat) (bs : List UInt8) (w : World) (x : Re) (at0 er : Nat) (HP : Hid (parseP s = (x, at0, er))) (HB : Hid (Bs w (.slice A m cap) bs)) (hm : bs.length = m) (he : er = 0) (hi : (m : Int) ≤ 60) (hc : ¬ 150 < cnt x.rx) (hd : 200 < deep x.rx) : Calls Try.prog 4 #[.string s, .slice A m cap] w fun e w' => e = .returned (.bool true) ∧ Kept w w' := by
  subst he
  go_enter Try.func4, Try.ntmps4
  go_wp2_with fail
  refine (alive_any w).mono ?_
  rintro e w1 ⟨rfl, hk⟩
  replace HB := Lib.hid (HB.out.keep hk)
  have HK := Lib.hid hk
  clear hk
  go_wp2_with fail
  refine (RParse_any s w1).mono ?_
  rw [HP.out]
  rintro e w2 ⟨u, rfl, hx, hk⟩
  obtain ⟨o1, s1, A1, n1, p1, rfl⟩ := hx.form
  have HX := Lib.hid ((RxAt.ofRe hx).kept ((Kept.refl _).alloc (.cells #[.int .i64 o1, .int .u64 (wdN s1 0), .int .u64 (wdN s1 1), .int .u64 (wdN s1 2), .int .u64 (wdN s1 3), .slice A1 n1 p1] 26)))
  have HB1 := Lib.hid (blk_new w2 (.cells #[.int .i64 o1, .int .u64 (wdN s1 0), .int .u64 (wdN s1 1), .int .u64 (wdN s1 2), .int .u64 (wdN s1 3), .slice A1 n1 p1] 26))
  replace HB := Lib.hid ((HB.out.keep hk).keep ((Kept.refl _).alloc (.cells #[.int .i64 o1, .int .u64 (wdN s1 0), .int .u64 (wdN s1 1), .int .u64 (wdN s1 2), .int .u64 (wdN s1 3), .slice A1 n1 p1] 26)))
  replace HK := Lib.hid ((HK.out.trans hk).alloc (.cells #[.int .i64 o1, .int .u64 (wdN s1 0), .int .u64 (wdN s1 1), .int .u64 (wdN s1 2), .int .u64 (wdN s1 3), .slice A1 n1 p1] 26))
  have hz : (w2.alloc (.cells #[.int .i64 o1, .int .u64 (wdN s1 0), .int .u64 (wdN s1 1), .int .u64 (wdN s1 2), .int .u64 (wdN s1 3), .slice A1 n1 p1] 26)).heap.size = w2.heap.size + 1 := by simp
  clear hk hx
  simp only [re6_form] at HX ⊢
  go_wp2_with fail
  generalize w2.alloc _ = w3 at HX HB HK HB1 hz ⊢
  refine (Posits_any w3 _ x.rx HX.out (by have := dp_parse s; rw [HP.out] at this; exact Nat.le_trans this (by decide))).mono ?_
  rintro e w4 ⟨q1, q2, q3, hk⟩
  obtain rfl := q2 hc hd
  clear q1 q2 q3
  replace HK := Lib.hid ((HK.out.trans hk).alloc (.cells #[.slice none 0 0, .bool false, .slice none 0 0, .slice none 0 0, .slice none 0 0] 33))
  simp only [zpos]
  go_wp2_with fail
  go_ret
  exact ⟨rfl, HK.out⟩
theorem undrew {w w' : World} (h : Kept w.drew w') : Kept w w' := (Kept.drew (Kept.refl _)).trans h
theorem Kit.Kept.undrew {w w' : World} (h : Kept w.drew w') : Kept w w' := (Kept.drew (Kept.refl _)).trans h
theorem info5 : ∃ i, Try.prog.info? 5 = some i ∧ i.zero = some (.int .u8 0) ∧ i.size = 1 ∧ i.bytes = 1 := by
  have h : (Try.prog.info? 5).map (fun i => (i.zero, i.size, i.bytes)) = some (some (.int .u8 0), 1, 1) := by kernel_rfl
  cases hi : Try.prog.info? 5 with
  | none => rw [hi] at h; cases h
  | some i =>
    rw [hi] at h
    simp only [Option.map_some, Option.some.injEq, Prod.mk.injEq] at h
    exact ⟨i, rfl, h.1, h.2.1, h.2.2⟩
theorem takes_same (st : Ps) (p : Pt) (bs : List UInt8) : takesP st p bs = refT st p bs := by
  unfold refT
  cases bs with
  | nil => rfl
  | cons c r => rw [if_neg (by simp)]; exact takes_ref st p c r
set_option maxRecDepth 100000 in
set_option maxHeartbeats 4000000 in
theorem ltk_go (s : ByteArray) (A : Option Addr) (m cap : Nat) (bs : List UInt8) (w : World) (x : Re) (at0 er : Nat) (HP : Hid (parseP s = (x, at0, er))) (HB : Hid (Bs w (.slice A m cap) bs)) (hm : bs.length = m) (he : er = 0) (hi : (m : Int) ≤ 60) (hc : ¬ 150 < cnt x.rx) (hd : ¬ 200 < deep x.rx) : Calls Try.prog 4 #[.string s, .slice A m cap] w fun e w' => e = .returned (.bool true) ∧ Kept w w' := by
  subst he
  go_enter Try.func4, Try.ntmps4
  go_wp2_with fail
  refine (alive_any w).mono ?_
  rintro e w1 ⟨rfl, hk⟩
  replace HB := Lib.hid (HB.out.keep hk)
  have HK := Lib.hid hk
  clear hk
  go_wp2_with fail
  refine (RParse_any s w1).mono ?_
  rw [HP.out]
  rintro e w2 ⟨u, rfl, hx, hk⟩
  obtain ⟨o1, s1, A1, n1, p1, rfl⟩ := hx.form
  have HX := Lib.hid ((RxAt.ofRe hx).kept ((Kept.refl _).alloc (.cells #[.int .i64 o1, .int .u64 (wdN s1 0), .int .u64 (wdN s1 1), .int .u64 (wdN s1 2), .int .u64 (wdN s1 3), .slice A1 n1 p1] 26)))
  have HB1 := Lib.hid (blk_new w2 (.cells #[.int .i64 o1, .int .u64 (wdN s1 0), .int .u64 (wdN s1 1), .int .u64 (wdN s1 2), .int .u64 (wdN s1 3), .slice A1 n1 p1] 26))
  replace HB := Lib.hid ((HB.out.keep hk).keep ((Kept.refl _).alloc (.cells #[.int .i64 o1, .int .u64 (wdN s1 0), .int .u64 (wdN s1 1), .int .u64 (wdN s1 2), .int .u64 (wdN s1 3), .slice A1 n1 p1] 26)))
  replace HK := Lib.hid ((HK.out.trans hk).alloc (.cells #[.int .i64 o1, .int .u64 (wdN s1 0), .int .u64 (wdN s1 1), .int .u64 (wdN s1 2), .int .u64 (wdN s1 3), .slice A1 n1 p1] 26))
  have hz : (w2.alloc (.cells #[.int .i64 o1, .int .u64 (wdN s1 0), .int .u64 (wdN s1 1), .int .u64 (wdN s1 2), .int .u64 (wdN s1 3), .slice A1 n1 p1] 26)).heap.size = w2.heap.size + 1 := by simp
  clear hk hx
  simp only [re6_form] at HX ⊢
  go_wp2_with fail
  generalize w2.alloc _ = w3 at HX HB HK HB1 hz ⊢
  refine (Posits_any w3 _ x.rx HX.out (by have := dp_parse s; rw [HP.out] at this; exact Nat.le_trans this (by decide))).mono ?_
  rintro e w4 ⟨q1, q2, q3, hk⟩
  obtain ⟨v, rfl, hpa⟩ := q3 hc hd
  clear q1 q2 q3
  obtain ⟨hO, hO1, hO2⟩ := wk_ok x.rx ⟨[], []⟩ ⟨rfl, by simp⟩
  simp only [List.length_nil, Nat.zero_add] at hO1 hO2
  obtain ⟨p, st, hwk⟩ : ∃ p st, wk x.rx ⟨[], []⟩ = (p, st) := ⟨_, _, rfl⟩
  rw [hwk] at hpa hO hO1 hO2
  simp only at hpa hO hO1 hO2
  have HOK := Lib.hid (And.intro hO (hO1 ▸ hO2))
  have hS : st.sets.length ≤ 150 := by omega
  clear hO hO1 hO2
  obtain ⟨vS, vf, vl, vF, rfl, k1, k2, k3, k4⟩ := hpa
  obtain ⟨A2, n2, c2, rfl⟩ : ∃ A n c, vS = .slice A n c := by obtain ⟨A, c, e, _⟩ := k1; exact ⟨_, _, _, e⟩
  obtain ⟨A3, c3, rfl⟩ := k2.form
  obtain ⟨A4, c4, rfl⟩ := k3.form
  obtain ⟨A5, n5, c5, rfl⟩ : ∃ A n c, vF = .slice A n c := by obtain ⟨fs, h, _⟩ := k4; obtain ⟨A, c, e⟩ := h.form; exact ⟨_, _, _, e⟩
  obtain ⟨n3, hn3⟩ : ∃ n, (ints p.first).length = n := ⟨_, rfl⟩
  obtain ⟨n4, hn4⟩ : ∃ n, (ints p.last).length = n := ⟨_, rfl⟩
  obtain ⟨b2, hb2⟩ : ∃ b, p.null = b := ⟨_, rfl⟩
  have HPA : Hid (PosAt (fun _ => True) w4 (.agg #[.slice A2 n2 c2, .bool b2, .slice A3 n3 c3, .slice A4 n4 c4, .slice A5 n5 c5]) p st) := by
    subst hn3 hn4 hb2
    exact Lib.hid (PosAt.keep ⟨_, _, _, _, rfl, k1, k2, k3, k4⟩ fun k _ _ => ⟨trivial, rfl⟩)
  rw [hn3, hn4, hb2]
  clear k1 k2 k3 k4 hn3 hn4 hb2 hwk
  replace HPA := Lib.hid (HPA.out.kept ((Kept.refl _).alloc (.cells #[.slice A2 n2 c2, .bool b2, .slice A3 n3 c3, .slice A4 n4 c4, .slice A5 n5 c5] 33)))
  have hb := blk_new w4 (.cells #[.slice A2 n2 c2, .bool b2, .slice A3 n3 c3, .slice A4 n4 c4, .slice A5 n5 c5] 33)
  replace HB := Lib.hid ((HB.out.keep hk).keep ((Kept.refl _).alloc (.cells #[.slice A2 n2 c2, .bool b2, .slice A3 n3 c3, .slice A4 n4 c4, .slice A5 n5 c5] 33)))
  replace HK := Lib.hid ((HK.out.trans hk).alloc (.cells #[.slice A2 n2 c2, .bool b2, .slice A3 n3 c3, .slice A4 n4 c4, .slice A5 n5 c5] 33))
  clear hk
  go_wp2_with fail
  obtain ⟨⟨d0, d1, d2, d3, d4⟩, -⟩ := box5 hb
  clear hb
  generalize w4.alloc _ = w5 at HPA HB HK d0 d1 d2 d3 d4 ⊢
  generalize w4.heap.size = g4 at d0 d1 d2 d3 d4 ⊢
  obtain ⟨T, hT⟩ : ∃ T, takesP st p bs = T := ⟨_, rfl⟩
  have HT := Lib.hid hT
  have HR := Lib.hid ((takes_same st p bs).symm.trans hT)
  clear hT
  refine wp_region_go Kept pre_kept [([(9, none)], none), ([(1, none)], none), ([(38, some 1)], none), ([(37, some 0), (39, some 2)], none), ([(9, none)], none), ([(1, none)], none), ([(41, some 4), (42, some 5)], none), ([(40, some 3), (43, some 6)], none), ([(44, some 7)], none)] (by kernel_rfl) 45 rfl (by kernel_rfl) (by kernel_rfl) ?_
  apply go_val pre_kept
  · rintro ρ wr ⟨hg, hn, hc, hf, hgl⟩
    simp only [Need, fat, List.nil_append, List.cons_append, List.getD_cons_zero, List.getD_cons_succ, Fct.hold, and_true] at hn
    have hl := And.intro (hg.cell d0) (And.intro (hg.cell d1) (And.intro (hg.cell d2) (And.intro (hg.cell d3) (hg.cell d4))))
    refine ⟨by simp [wantP, hn], ?_⟩
    simp [execOp, hn, hc, hl, go_sem]
    exact rfl
  apply go_val pre_kept
  · rintro ρ wr ⟨hg, hn, hc, hf, hgl⟩
    simp only [Need, fat, List.nil_append, List.cons_append, List.getD_cons_zero, List.getD_cons_succ, Fct.hold, and_true] at hn
    refine ⟨by simp [wantP, hn], ?_⟩
    simp [execOp, hn, hc, go_sem]
    exact rfl
  refine go_any (p := fun u w' => Bs w' u bs) (fun _ _ _ h k => k.keep h) ?_ ?_
  · rintro ρ wr ⟨hg, hn, hc, hf, hgl⟩
    simp only [Need, fat, List.nil_append, List.cons_append, List.getD_cons_zero, List.getD_cons_succ, Fct.hold, and_true] at hn
    refine ⟨by simp [wantP], ?_⟩
    obtain ⟨i0, hi5, hz5, hs5, hb5⟩ := info5
    obtain ⟨v', w', hr, hp, hk⟩ := run_fresh (P := Try.prog) wr 42 42 5 i0 _ Try.underlying42 hi5 hz5 hs5 hb5 rfl (.slice A m cap) bs (HB.out.keep hg.undrew) (by omega)
    simp only [execOp, resolve, invoke, builtin, Sem.run_bind, Sem.run_pure, Result.andThen_ok, List.map_toArray, List.map_cons, List.map_nil, hn, hc, hr, Ups]
    exact ⟨hp, hk⟩
  apply go_callv (x := .bool T)
  · rintro ρ wr ⟨hg, hn, hc, hf, hgl⟩
    simp only [Need, fat, List.nil_append, List.cons_append, List.getD_cons_zero, List.getD_cons_succ, Fct.hold, and_true] at hn
    obtain ⟨hn1, hn2⟩ := hn
    refine ⟨by simp [wantP], _, _, by simp [execOp, hn1, hn2, hf, hc, resolve, invoke, go_sem]; exact ⟨rfl, rfl⟩, ?_⟩
    rw [← HT.out]
    exact (takes_any _ _ _ _ bs wr (HPA.out.kept hg.undrew) hn2 hS (by omega)).mono fun e w' ⟨h1, h2⟩ => ⟨_, h1, rfl, h2⟩
  apply go_val pre_kept
  · rintro ρ wr ⟨hg, hn, hc, hf, hgl⟩
    simp only [Need, fat, List.nil_append, List.cons_append, List.getD_cons_zero, List.getD_cons_succ, Fct.hold, and_true] at hn
    have hl := And.intro (hg.cell d0) (And.intro (hg.cell d1) (And.intro (hg.cell d2) (And.intro (hg.cell d3) (hg.cell d4))))
    refine ⟨by simp [wantP, hn], ?_⟩
    simp [execOp, hn, hc, hl, go_sem]
    exact rfl
  apply go_val pre_kept
  · rintro ρ wr ⟨hg, hn, hc, hf, hgl⟩
    simp only [Need, fat, List.nil_append, List.cons_append, List.getD_cons_zero, List.getD_cons_succ, Fct.hold, and_true] at hn
    refine ⟨by simp [wantP, hn], ?_⟩
    simp [execOp, hn, hc, go_sem]
    exact rfl
  apply go_callv (x := .bool T)
  · rintro ρ wr ⟨hg, hn, hc, hf, hgl⟩
    simp only [Need, fat, List.nil_append, List.cons_append, List.getD_cons_zero, List.getD_cons_succ, Fct.hold, and_true] at hn
    refine ⟨by simp [wantP], _, _, by simp [execOp, hn, hf, hc, resolve, invoke, go_sem]; exact ⟨rfl, rfl⟩, ?_⟩
    rw [← HR.out]
    exact (rtakes_any _ _ _ _ bs wr (HPA.out.kept hg.undrew) (HB.out.keep hg.undrew) HOK.out.1 HOK.out.2 hS (by omega)).mono fun e w' ⟨h1, h2⟩ => ⟨_, h1, rfl, h2⟩
  apply go_val (x := .bool true) pre_kept
  · rintro ρ wr ⟨hg, hn, hc, hf, hgl⟩
    simp only [Need, fat, List.nil_append, List.cons_append, List.getD_cons_zero, List.getD_cons_succ, Fct.hold, and_true] at hn
    refine ⟨by simp [wantP, hn], ?_⟩
    simp [execOp, hn, hc, go_sem]
  apply go_val pre_kept
  · rintro ρ wr ⟨hg, hn, hc, hf, hgl⟩
    simp only [Need, fat, List.nil_append, List.cons_append, List.getD_cons_zero, List.getD_cons_succ, Fct.hold, and_true] at hn
    refine ⟨by simp [wantP, hn], ?_⟩
    simp [execOp, hn, hc, go_sem]
    exact rfl
  intro w2 hk2
  simp only [Post, List.nil_append, List.cons_append, Act.put, List.setIfInBounds_toArray, List.set_cons_zero, List.set_cons_succ]
  have hk3 := undrew hk2
  replace HK := Lib.hid (HK.out.trans hk3)
  intro u hu
  clear hu
  rename_i hK
  refine hK _ _ ?_
  clear hK
  go_wp2_with fail
  go_ret
  exact ⟨rfl, HK.out⟩
theorem ltk_any (s : ByteArray) (A : Option Addr) (m cap : Nat) (bs : List UInt8) (w : World) (hb : Bs w (.slice A m cap) bs) : Calls Try.prog 4 #[.string s, .slice A m cap] w fun e w' => e = .returned (.bool true) ∧ Kept w w' := by
  obtain ⟨x, at0, er, hp⟩ : ∃ x at0 er, parseP s = (x, at0, er) := ⟨_, _, _, rfl⟩
  have hm : bs.length = m := by obtain ⟨A, c, e, _⟩ := hb; injection e with _ e; exact e.symm
  by_cases he : er = 0
  · by_cases hi : (60 : Int) < m
    · exact ltk_long s A m cap bs w x at0 er (Lib.hid hp) (Lib.hid hb) hm he hi
    · by_cases hc : 150 < cnt x.rx
      · exact ltk_none s A m cap bs w x at0 er (Lib.hid hp) (Lib.hid hb) hm he (by omega) hc
      · by_cases hd : 200 < deep x.rx
        · exact ltk_deep s A m cap bs w x at0 er (Lib.hid hp) (Lib.hid hb) hm he (by omega) hc hd
        · exact ltk_go s A m cap bs w x at0 er (Lib.hid hp) (Lib.hid hb) hm he (by omega) hc hd
  · exact ltk_wrong s A m cap bs w x at0 er (Lib.hid hp) (Lib.hid hb) hm (by omega)
end Go.Proofs.Ytdbffbdpofodmaa
