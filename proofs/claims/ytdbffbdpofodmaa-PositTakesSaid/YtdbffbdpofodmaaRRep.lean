/-
  What the document's own rep reads. Conditions: the text is no longer than 200 bytes, the reader has not failed and stands at a byte.
-/
import Derived.Test.YtdbffbdpofodmaaRAtom
set_option linter.unusedSimpArgs false
namespace Go.Proofs.Ytdbffbdpofodmaa
open Go Go.RowKit Kit
set_option maxHeartbeats 2000000 in
theorem rrep_err (g : Nat) (s : ByteArray) (k : Nat) (d : Int) (w : World) (h : w.heap[g]? = some (RO s k)) (_hs : s.size ≤ 200) (er j : Nat) (her : 0 < er) (HC : ∀ w, w.heap[g]? = some (RO s k) → Calls Try.prog 56 #[ptr g, .int .i64 d] w (RefPost g s (.err er j) w)) : Calls Try.prog 54 #[ptr g, .int .i64 d] w (RefPost g s (.err er j) w) := by
  have hgl := blk_lt h
  have H := Lib.hid ((StO.start h).alloc (.cells #[.int .i64 0, .int .u64 0, .int .u64 0, .int .u64 0, .int .u64 0, .slice none 0 0] 26))
  clear h
  unfold RefPost at *
  have HQ := Lib.hid (HC _ H.out.1)
  clear HC
  unfold ptr at *
  go_enter Try.func54, Try.ntmps54
  go_wp2_with fail
  refine HQ.out.mono ?_
  rintro e w3 ⟨u, rfl, hu, h3, h2⟩
  clear HQ
  obtain ⟨o1, s1, A1, n1, p1, rfl⟩ := hu
  have hrl := blk_lt (H.out.blk (r := w.heap.size) List.mem_cons_self)
  have hsz := Gr.size h3
  obtain ⟨a, h2⟩ := h2
  have her2 : ¬ (er : Int) = 0 := by omega
  have her3 : ((er : Int) == 0) = false := by simpa using her2
  replace H := Lib.hid ((H.out.step h2 h3).alloc (.cells #[.int .i64 o1, .int .u64 (wdN s1 0), .int .u64 (wdN s1 1), .int .u64 (wdN s1 2), .int .u64 (wdN s1 3), .slice A1 n1 p1] 26))
  simp only [re6_form, wd_eq]
  clear h2 h3
  go_wp2_with fail
  have hn : (w3.alloc (.cells #[.int .i64 o1, .int .u64 (wdN s1 0), .int .u64 (wdN s1 1), .int .u64 (wdN s1 2), .int .u64 (wdN s1 3), .slice A1 n1 p1] 26)).heap.size = w3.heap.size + 1 := by simp
  generalize w3.alloc _ = w4 at H hn ⊢
  go_loopw [6] (fun _ wr => wr = w4) (fun _ _ => 0)
  case atStart => rfl
  case round =>
    subst hrel
    obtain ⟨⟨c0, c1, c2, c3⟩, f0, f1, f2, f3⟩ := RF.lay H.out.1
    obtain ⟨⟨d0, d1, d2, d3, d4, d5⟩, g0, g1, g2, g3, g4, g5⟩ := box6 (H.out.blk (r := w.heap.size) (List.mem_cons_of_mem _ List.mem_cons_self))
    obtain ⟨⟨x0, x1, x2, x3, x4, x5⟩, -⟩ := box6 (H.out.blk List.mem_cons_self)
    have HF := Lib.hid (ret_reO H.out.drop (Nat.le_refl _) (.int .i64 o1) (.int .u64 (wdN s1 0)) (.int .u64 (wdN s1 1)) (.int .u64 (wdN s1 2)) (.int .u64 (wdN s1 3)) (.slice A1 n1 p1))
    go_wp2_with fail
    refine bodyPost_ret (v := re6 o1 s1 (.slice A1 n1 p1)) ?_ rfl ⟨_, rfl, six_re _ _ _ _ _, HF.out.2.2, _, HF.out.1⟩
    simp [results, Try.results54, go_sem, re6_form, d0, d1, d2, d3, d4, d5]
/-- Where the document's reader is. -/
def roAt (g : Nat) (w : World) : Nat := match w.cell? ⟨g, 1, none⟩ with | some (.int _ n) => n.toNat | _ => 0
theorem reAt_at {g k : Nat} {s : ByteArray} {w : World} (h : w.heap[g]? = some (RO s k)) : roAt g w = k := by
  obtain ⟨⟨-, c1, -⟩, -⟩ := RO.lay h
  unfold roAt
  rw [c1]
  simp
set_option maxHeartbeats 8000000 in
theorem rrep_ok (g : Nat) (s : ByteArray) (k : Nat) (d : Int) (w : World) (h : w.heap[g]? = some (RO s k)) (hs : s.size ≤ 200) (z : Re) (i : Nat) (hi : i ≤ s.size) (R : Re × Nat) (HR : Hid (repL s z i = R)) (HC : ∀ w, w.heap[g]? = some (RO s k) → Calls Try.prog 56 #[ptr g, .int .i64 d] w (RefPost g s (.ok z i) w)) : Calls Try.prog 54 #[ptr g, .int .i64 d] w (RefPost g s (.ok R.1 R.2) w) := by
  have hgl := blk_lt h
  have H := Lib.hid ((StO.start h).alloc (.cells #[.int .i64 0, .int .u64 0, .int .u64 0, .int .u64 0, .int .u64 0, .slice none 0 0] 26))
  clear h
  unfold RefPost at *
  have HQ := Lib.hid (HC _ H.out.1)
  clear HC
  unfold ptr at *
  go_enter Try.func54, Try.ntmps54
  go_wp2_with fail
  refine HQ.out.mono ?_
  rintro e w3 ⟨u, rfl, hu, h3, h2⟩
  clear HQ
  obtain ⟨o1, s1, A1, n1, p1, rfl⟩ := hu
  have hrl := blk_lt (H.out.blk (r := w.heap.size) List.mem_cons_self)
  have hsz := Gr.size h3
  obtain ⟨hx, h2⟩ := h2
  have HX : Hid (ReAt (fun k => w.heap.size + 1 ≤ k ∧ k ≠ w3.heap.size) (w3.alloc (.cells #[.int .i64 o1, .int .u64 (wdN s1 0), .int .u64 (wdN s1 1), .int .u64 (wdN s1 2), .int .u64 (wdN s1 3), .slice A1 n1 p1] 26)) (re6 o1 s1 (.slice A1 n1 p1)) z) := Lib.hid ((hx.weak fun k hk hS => ⟨by omega, by omega⟩).kept ((Kept.refl _).alloc _))
  replace H := Lib.hid ((H.out.step h2 h3).alloc (.cells #[.int .i64 o1, .int .u64 (wdN s1 0), .int .u64 (wdN s1 1), .int .u64 (wdN s1 2), .int .u64 (wdN s1 3), .slice A1 n1 p1] 26))
  clear h2 h3 hx
  simp only [re6_form, wd_eq] at HX ⊢
  go_wp2_with fail
  go_loopw [6] (fun _ wr => ∃ (j : Nat) (y : Re) (o1 n1 p1 : Nat) (s1 : BitVec 256) (A1 : Option Addr), j ≤ s.size ∧ repL s y j = R ∧ ReAt (fun k => w.heap.size + 1 ≤ k ∧ k ≠ w3.heap.size) wr (re6 o1 s1 (.slice A1 n1 p1)) y ∧ StO g (RO s j) [(w3.heap.size, .cells #[.int .i64 o1, wd s1 0, wd s1 1, wd s1 2, wd s1 3, .slice A1 n1 p1] 26), (w.heap.size, (.cells #[.int .i64 0, .int .u64 0, .int .u64 0, .int .u64 0, .int .u64 0, .slice none 0 0] 26))] w wr) (fun _ wr => s.size - roAt g wr)
  case atStart => exact ⟨i, z, o1, n1, p1, s1, A1, hi, HR.out, HX.out, H.out⟩
  case round =>
    clear HR HX H
    obtain ⟨j, y, o1, n1, p1, s1, A1, hj, hr, hx, hst⟩ := hrel
    have H := Lib.hid hst
    have HR := Lib.hid hr
    have HX := Lib.hid hx
    clear hst hr hx
    have HM := Lib.hid (reAt_at H.out.1)
    have hxg := H.out.ne List.mem_cons_self
    simp only [wd_eq] at H
    obtain ⟨⟨c0, c1, c2, c3⟩, f0, f1, f2, f3⟩ := RO.lay H.out.1
    go_wp2_with fail
    clear c0 c1 c2 c3 f0 f1 f2 f3
    cases h42 : byteAt s j == some 42 with
    | true =>
      have hbt := beq_iff_eq.1 h42
      have HB42 := Lib.hid h42
      have HB43 : Hid ((byteAt s j == some 43) = false) := Lib.hid (by rw [hbt]; decide)
      have HB63 : Hid ((byteAt s j == some 63) = false) := Lib.hid (by rw [hbt]; decide)
      have hlt := byteAt_lt hbt
      clear h42
      obtain ⟨j1, hj1⟩ : ∃ j1, j + 1 = j1 := ⟨_, rfl⟩
      have HR : Hid (repL s (.mk 4 0#256 [y]) j1 = R) := Lib.hid (by rw [← HR.out, repL_in hbt, if_neg (by decide), hj1]; rfl)
      clear hbt
      obtain ⟨q, hq⟩ : ∃ q, 4 = q := ⟨_, rfl⟩
      rw [hq] at HR
      have HQ4 : Hid (Value.int IntKind.i64 4 = Value.int IntKind.i64 (q : Int)) := Lib.hid (by rw [← hq]; rfl)
      clear hq
      refine (is_any g s j 42 _ H.out.1).mono ?_
      rintro e w5 ⟨rfl, hk5⟩
      rw [HB42.out]
      replace H := Lib.hid (H.out.kept hk5)
      replace HX := Lib.hid (HX.out.kept hk5)
      clear hk5
      go_wp2_with fail
      refine (is_any g s j 43 _ H.out.1).mono ?_
      rintro e w6 ⟨rfl, hk5⟩
      rw [HB43.out]
      replace H := Lib.hid (H.out.kept hk5)
      replace HX := Lib.hid (HX.out.kept hk5)
      clear hk5
      go_wp2_with fail
      refine (is_any g s j 63 _ H.out.1).mono ?_
      rintro e w7 ⟨rfl, hk5⟩
      rw [HB63.out]
      replace H := Lib.hid (H.out.kept hk5)
      replace HX := Lib.hid (HX.out.kept hk5)
      clear hk5
      have hji : (j : Int) + 1 = j1 := by omega
      have hj1b : j1 ≤ s.size := by omega
      have hj1c : j1 ≤ 200 := by omega
      have HJ := Lib.hid hj1
      clear hj1
      obtain ⟨⟨c0, c1, c2, c3⟩, f0, f1, f2, f3⟩ := RO.lay H.out.1
      obtain ⟨⟨x0, x1, x2, x3, x4, x5⟩, y0, y1, y2, y3, y4, y5⟩ := box6 (H.out.blk List.mem_cons_self)
      have hxl := blk_lt (H.out.blk List.mem_cons_self)
      have hgl7 := blk_lt H.out.1
      have hs1 : w.heap.size ≤ w3.heap.size := by rw [World.size_alloc] at hsz; omega
      have hs2 : w.heap.size < w3.heap.size := by rw [World.size_alloc] at hsz; omega
      have hszw : (((((((w7.setCell ⟨g, 1, none⟩ (.int .i64 j1)).setCell ⟨w3.heap.size, 0, none⟩ (.int .i64 q)).setCell ⟨w3.heap.size, 1, none⟩ (.int .u64 0)).setCell ⟨w3.heap.size, 2, none⟩ (.int .u64 0)).setCell ⟨w3.heap.size, 3, none⟩ (.int .u64 0)).setCell ⟨w3.heap.size, 4, none⟩ (.int .u64 0)).setCell ⟨w3.heap.size, 5, none⟩ (.slice (some ⟨w7.heap.size, 0, none⟩) 1 1)).heap.size = w7.heap.size := by simp [World.setCell]
      have hst : StO g (RO s j1) [(w.heap.size, (.cells #[.int .i64 0, .int .u64 0, .int .u64 0, .int .u64 0, .int .u64 0, .slice none 0 0] 26))] w (((((((w7.setCell ⟨g, 1, none⟩ (.int .i64 j1)).setCell ⟨w3.heap.size, 0, none⟩ (.int .i64 q)).setCell ⟨w3.heap.size, 1, none⟩ (.int .u64 0)).setCell ⟨w3.heap.size, 2, none⟩ (.int .u64 0)).setCell ⟨w3.heap.size, 3, none⟩ (.int .u64 0)).setCell ⟨w3.heap.size, 4, none⟩ (.int .u64 0)).setCell ⟨w3.heap.size, 5, none⟩ (.slice (some ⟨w7.heap.size, 0, none⟩) 1 1)) := (((((((H.out.drop.at (k' := j1)).side (p := ⟨w3.heap.size, 0, none⟩) hs1 hxg (by simp; omega) _).side (p := ⟨w3.heap.size, 1, none⟩) hs1 hxg (by simp; omega) _).side (p := ⟨w3.heap.size, 2, none⟩) hs1 hxg (by simp; omega) _).side (p := ⟨w3.heap.size, 3, none⟩) hs1 hxg (by simp; omega) _).side (p := ⟨w3.heap.size, 4, none⟩) hs1 hxg (by simp; omega) _).side (p := ⟨w3.heap.size, 5, none⟩) hs1 hxg (by simp; omega) _)
      have hxb : (((((((w7.setCell ⟨g, 1, none⟩ (.int .i64 j1)).setCell ⟨w3.heap.size, 0, none⟩ (.int .i64 q)).setCell ⟨w3.heap.size, 1, none⟩ (.int .u64 0)).setCell ⟨w3.heap.size, 2, none⟩ (.int .u64 0)).setCell ⟨w3.heap.size, 3, none⟩ (.int .u64 0)).setCell ⟨w3.heap.size, 4, none⟩ (.int .u64 0)).setCell ⟨w3.heap.size, 5, none⟩ (.slice (some ⟨w7.heap.size, 0, none⟩) 1 1)).heap[w3.heap.size]? = some (.cells #[.int .i64 q, wd 0#256 0, wd 0#256 1, wd 0#256 2, wd 0#256 3, .slice (some ⟨w7.heap.size, 0, none⟩) 1 1] 26 (0, 0)) := by
        simp only [wd_zero]
        exact blk_set6 (blk_aside (H.out.blk List.mem_cons_self) (by simp only []; omega) _) _ _ _ _ _ _
      have hrx : ReAt (fun k => w.heap.size + 1 ≤ k ∧ k ≠ w3.heap.size) (((((((w7.setCell ⟨g, 1, none⟩ (.int .i64 j1)).setCell ⟨w3.heap.size, 0, none⟩ (.int .i64 q)).setCell ⟨w3.heap.size, 1, none⟩ (.int .u64 0)).setCell ⟨w3.heap.size, 2, none⟩ (.int .u64 0)).setCell ⟨w3.heap.size, 3, none⟩ (.int .u64 0)).setCell ⟨w3.heap.size, 4, none⟩ (.int .u64 0)).setCell ⟨w3.heap.size, 5, none⟩ (.slice (some ⟨w7.heap.size, 0, none⟩) 1 1)) (re6 o1 s1 (.slice A1 n1 p1)) y := ((((((HX.out.set (p := ⟨g, 1, none⟩) (fun h => by have := h.1; simp only [] at this; omega) _).set (p := ⟨w3.heap.size, 0, none⟩) (fun h => h.2 rfl) _).set (p := ⟨w3.heap.size, 1, none⟩) (fun h => h.2 rfl) _).set (p := ⟨w3.heap.size, 2, none⟩) (fun h => h.2 rfl) _).set (p := ⟨w3.heap.size, 3, none⟩) (fun h => h.2 rfl) _).set (p := ⟨w3.heap.size, 4, none⟩) (fun h => h.2 rfl) _).set (p := ⟨w3.heap.size, 5, none⟩) (fun h => h.2 rfl) _
      have hnb : ((((((((w7.setCell ⟨g, 1, none⟩ (.int .i64 j1)).setCell ⟨w3.heap.size, 0, none⟩ (.int .i64 q)).setCell ⟨w3.heap.size, 1, none⟩ (.int .u64 0)).setCell ⟨w3.heap.size, 2, none⟩ (.int .u64 0)).setCell ⟨w3.heap.size, 3, none⟩ (.int .u64 0)).setCell ⟨w3.heap.size, 4, none⟩ (.int .u64 0)).setCell ⟨w3.heap.size, 5, none⟩ (.slice (some ⟨w7.heap.size, 0, none⟩) 1 1)).alloc (.cells #[.int .i64 o1, .int .u64 (wdN s1 0), .int .u64 (wdN s1 1), .int .u64 (wdN s1 2), .int .u64 (wdN s1 3), .slice A1 n1 p1] 26)).heap[w7.heap.size]? = some (.cells #[.int .i64 o1, .int .u64 (wdN s1 0), .int .u64 (wdN s1 1), .int .u64 (wdN s1 2), .int .u64 (wdN s1 3), .slice A1 n1 p1] 26) := by
        have := blk_new (((((((w7.setCell ⟨g, 1, none⟩ (.int .i64 j1)).setCell ⟨w3.heap.size, 0, none⟩ (.int .i64 q)).setCell ⟨w3.heap.size, 1, none⟩ (.int .u64 0)).setCell ⟨w3.heap.size, 2, none⟩ (.int .u64 0)).setCell ⟨w3.heap.size, 3, none⟩ (.int .u64 0)).setCell ⟨w3.heap.size, 4, none⟩ (.int .u64 0)).setCell ⟨w3.heap.size, 5, none⟩ (.slice (some ⟨w7.heap.size, 0, none⟩) 1 1)) (.cells #[.int .i64 o1, .int .u64 (wdN s1 0), .int .u64 (wdN s1 1), .int .u64 (wdN s1 2), .int .u64 (wdN s1 3), .slice A1 n1 p1] 26)
        rw [hszw] at this
        exact this
      have HN := Lib.hid ((hst.add hxb hxg).kept ((Kept.refl _).alloc (.cells #[.int .i64 o1, .int .u64 (wdN s1 0), .int .u64 (wdN s1 1), .int .u64 (wdN s1 2), .int .u64 (wdN s1 3), .slice A1 n1 p1] 26)))
      have HW := Lib.hid ((hrx.kept ((Kept.refl _).alloc (.cells #[.int .i64 o1, .int .u64 (wdN s1 0), .int .u64 (wdN s1 1), .int .u64 (wdN s1 2), .int .u64 (wdN s1 3), .slice A1 n1 p1] 26))).wrap hnb ⟨by omega, by omega⟩ q)
      clear hst hxb hrx hnb hszw HX hs1 hs2 H
      go_wp2_with fail
      go_roundw
      case rel => rw [HQ4.out]; exact ⟨j1, .mk q 0#256 [y], q, 1, 1, 0#256, some ⟨w7.heap.size, 0, none⟩, hj1b, HR.out, HW.out, HN.out⟩
      case measure => rw [HQ4.out, HM.out, reAt_at HN.out.1]; have := HJ.out; omega
    | false =>
    have HB42 := Lib.hid h42
    cases h43 : byteAt s j == some 43 with
    | true =>
      have hbt := beq_iff_eq.1 h43
      have HB43 := Lib.hid h43
      have HB63 : Hid ((byteAt s j == some 63) = false) := Lib.hid (by rw [hbt]; decide)
      have hlt := byteAt_lt hbt
      clear h42 h43
      obtain ⟨j1, hj1⟩ : ∃ j1, j + 1 = j1 := ⟨_, rfl⟩
      have HR : Hid (repL s (.mk 5 0#256 [y]) j1 = R) := Lib.hid (by rw [← HR.out, repL_in hbt, if_neg (by decide), hj1]; rfl)
      clear hbt
      obtain ⟨q, hq⟩ : ∃ q, 5 = q := ⟨_, rfl⟩
      rw [hq] at HR
      have HQ4 : Hid (Value.int IntKind.i64 5 = Value.int IntKind.i64 (q : Int)) := Lib.hid (by rw [← hq]; rfl)
      clear hq
      refine (is_any g s j 42 _ H.out.1).mono ?_
      rintro e w5 ⟨rfl, hk5⟩
      rw [HB42.out]
      replace H := Lib.hid (H.out.kept hk5)
      replace HX := Lib.hid (HX.out.kept hk5)
      clear hk5
      go_wp2_with fail
      refine (is_any g s j 43 _ H.out.1).mono ?_
      rintro e w6 ⟨rfl, hk5⟩
      rw [HB43.out]
      replace H := Lib.hid (H.out.kept hk5)
      replace HX := Lib.hid (HX.out.kept hk5)
      clear hk5
      go_wp2_with fail
      refine (is_any g s j 43 _ H.out.1).mono ?_
      rintro e w7 ⟨rfl, hk5⟩
      rw [HB43.out]
      replace H := Lib.hid (H.out.kept hk5)
      replace HX := Lib.hid (HX.out.kept hk5)
      clear hk5
      go_wp2_with fail
      refine (is_any g s j 63 _ H.out.1).mono ?_
      rintro e w8 ⟨rfl, hk5⟩
      rw [HB63.out]
      replace H := Lib.hid (H.out.kept hk5)
      replace HX := Lib.hid (HX.out.kept hk5)
      clear hk5
      have hji : (j : Int) + 1 = j1 := by omega
      have hj1b : j1 ≤ s.size := by omega
      have hj1c : j1 ≤ 200 := by omega
      have HJ := Lib.hid hj1
      clear hj1
      obtain ⟨⟨c0, c1, c2, c3⟩, f0, f1, f2, f3⟩ := RO.lay H.out.1
      obtain ⟨⟨x0, x1, x2, x3, x4, x5⟩, y0, y1, y2, y3, y4, y5⟩ := box6 (H.out.blk List.mem_cons_self)
      have hxl := blk_lt (H.out.blk List.mem_cons_self)
      have hgl7 := blk_lt H.out.1
      have hs1 : w.heap.size ≤ w3.heap.size := by rw [World.size_alloc] at hsz; omega
      have hs2 : w.heap.size < w3.heap.size := by rw [World.size_alloc] at hsz; omega
      have hszw : (((((((w8.setCell ⟨g, 1, none⟩ (.int .i64 j1)).setCell ⟨w3.heap.size, 0, none⟩ (.int .i64 q)).setCell ⟨w3.heap.size, 1, none⟩ (.int .u64 0)).setCell ⟨w3.heap.size, 2, none⟩ (.int .u64 0)).setCell ⟨w3.heap.size, 3, none⟩ (.int .u64 0)).setCell ⟨w3.heap.size, 4, none⟩ (.int .u64 0)).setCell ⟨w3.heap.size, 5, none⟩ (.slice (some ⟨w8.heap.size, 0, none⟩) 1 1)).heap.size = w8.heap.size := by simp [World.setCell]
      have hst : StO g (RO s j1) [(w.heap.size, (.cells #[.int .i64 0, .int .u64 0, .int .u64 0, .int .u64 0, .int .u64 0, .slice none 0 0] 26))] w (((((((w8.setCell ⟨g, 1, none⟩ (.int .i64 j1)).setCell ⟨w3.heap.size, 0, none⟩ (.int .i64 q)).setCell ⟨w3.heap.size, 1, none⟩ (.int .u64 0)).setCell ⟨w3.heap.size, 2, none⟩ (.int .u64 0)).setCell ⟨w3.heap.size, 3, none⟩ (.int .u64 0)).setCell ⟨w3.heap.size, 4, none⟩ (.int .u64 0)).setCell ⟨w3.heap.size, 5, none⟩ (.slice (some ⟨w8.heap.size, 0, none⟩) 1 1)) := (((((((H.out.drop.at (k' := j1)).side (p := ⟨w3.heap.size, 0, none⟩) hs1 hxg (by simp; omega) _).side (p := ⟨w3.heap.size, 1, none⟩) hs1 hxg (by simp; omega) _).side (p := ⟨w3.heap.size, 2, none⟩) hs1 hxg (by simp; omega) _).side (p := ⟨w3.heap.size, 3, none⟩) hs1 hxg (by simp; omega) _).side (p := ⟨w3.heap.size, 4, none⟩) hs1 hxg (by simp; omega) _).side (p := ⟨w3.heap.size, 5, none⟩) hs1 hxg (by simp; omega) _)
      have hxb : (((((((w8.setCell ⟨g, 1, none⟩ (.int .i64 j1)).setCell ⟨w3.heap.size, 0, none⟩ (.int .i64 q)).setCell ⟨w3.heap.size, 1, none⟩ (.int .u64 0)).setCell ⟨w3.heap.size, 2, none⟩ (.int .u64 0)).setCell ⟨w3.heap.size, 3, none⟩ (.int .u64 0)).setCell ⟨w3.heap.size, 4, none⟩ (.int .u64 0)).setCell ⟨w3.heap.size, 5, none⟩ (.slice (some ⟨w8.heap.size, 0, none⟩) 1 1)).heap[w3.heap.size]? = some (.cells #[.int .i64 q, wd 0#256 0, wd 0#256 1, wd 0#256 2, wd 0#256 3, .slice (some ⟨w8.heap.size, 0, none⟩) 1 1] 26 (0, 0)) := by
        simp only [wd_zero]
        exact blk_set6 (blk_aside (H.out.blk List.mem_cons_self) (by simp only []; omega) _) _ _ _ _ _ _
      have hrx : ReAt (fun k => w.heap.size + 1 ≤ k ∧ k ≠ w3.heap.size) (((((((w8.setCell ⟨g, 1, none⟩ (.int .i64 j1)).setCell ⟨w3.heap.size, 0, none⟩ (.int .i64 q)).setCell ⟨w3.heap.size, 1, none⟩ (.int .u64 0)).setCell ⟨w3.heap.size, 2, none⟩ (.int .u64 0)).setCell ⟨w3.heap.size, 3, none⟩ (.int .u64 0)).setCell ⟨w3.heap.size, 4, none⟩ (.int .u64 0)).setCell ⟨w3.heap.size, 5, none⟩ (.slice (some ⟨w8.heap.size, 0, none⟩) 1 1)) (re6 o1 s1 (.slice A1 n1 p1)) y := ((((((HX.out.set (p := ⟨g, 1, none⟩) (fun h => by have := h.1; simp only [] at this; omega) _).set (p := ⟨w3.heap.size, 0, none⟩) (fun h => h.2 rfl) _).set (p := ⟨w3.heap.size, 1, none⟩) (fun h => h.2 rfl) _).set (p := ⟨w3.heap.size, 2, none⟩) (fun h => h.2 rfl) _).set (p := ⟨w3.heap.size, 3, none⟩) (fun h => h.2 rfl) _).set (p := ⟨w3.heap.size, 4, none⟩) (fun h => h.2 rfl) _).set (p := ⟨w3.heap.size, 5, none⟩) (fun h => h.2 rfl) _
      have hnb : ((((((((w8.setCell ⟨g, 1, none⟩ (.int .i64 j1)).setCell ⟨w3.heap.size, 0, none⟩ (.int .i64 q)).setCell ⟨w3.heap.size, 1, none⟩ (.int .u64 0)).setCell ⟨w3.heap.size, 2, none⟩ (.int .u64 0)).setCell ⟨w3.heap.size, 3, none⟩ (.int .u64 0)).setCell ⟨w3.heap.size, 4, none⟩ (.int .u64 0)).setCell ⟨w3.heap.size, 5, none⟩ (.slice (some ⟨w8.heap.size, 0, none⟩) 1 1)).alloc (.cells #[.int .i64 o1, .int .u64 (wdN s1 0), .int .u64 (wdN s1 1), .int .u64 (wdN s1 2), .int .u64 (wdN s1 3), .slice A1 n1 p1] 26)).heap[w8.heap.size]? = some (.cells #[.int .i64 o1, .int .u64 (wdN s1 0), .int .u64 (wdN s1 1), .int .u64 (wdN s1 2), .int .u64 (wdN s1 3), .slice A1 n1 p1] 26) := by
        have := blk_new (((((((w8.setCell ⟨g, 1, none⟩ (.int .i64 j1)).setCell ⟨w3.heap.size, 0, none⟩ (.int .i64 q)).setCell ⟨w3.heap.size, 1, none⟩ (.int .u64 0)).setCell ⟨w3.heap.size, 2, none⟩ (.int .u64 0)).setCell ⟨w3.heap.size, 3, none⟩ (.int .u64 0)).setCell ⟨w3.heap.size, 4, none⟩ (.int .u64 0)).setCell ⟨w3.heap.size, 5, none⟩ (.slice (some ⟨w8.heap.size, 0, none⟩) 1 1)) (.cells #[.int .i64 o1, .int .u64 (wdN s1 0), .int .u64 (wdN s1 1), .int .u64 (wdN s1 2), .int .u64 (wdN s1 3), .slice A1 n1 p1] 26)
        rw [hszw] at this
        exact this
      have HN := Lib.hid ((hst.add hxb hxg).kept ((Kept.refl _).alloc (.cells #[.int .i64 o1, .int .u64 (wdN s1 0), .int .u64 (wdN s1 1), .int .u64 (wdN s1 2), .int .u64 (wdN s1 3), .slice A1 n1 p1] 26)))
      have HW := Lib.hid ((hrx.kept ((Kept.refl _).alloc (.cells #[.int .i64 o1, .int .u64 (wdN s1 0), .int .u64 (wdN s1 1), .int .u64 (wdN s1 2), .int .u64 (wdN s1 3), .slice A1 n1 p1] 26))).wrap hnb ⟨by omega, by omega⟩ q)
      clear hst hxb hrx hnb hszw HX hs1 hs2 H
      go_wp2_with fail
      go_roundw
      case rel => rw [HQ4.out]; exact ⟨j1, .mk q 0#256 [y], q, 1, 1, 0#256, some ⟨w8.heap.size, 0, none⟩, hj1b, HR.out, HW.out, HN.out⟩
      case measure => rw [HQ4.out, HM.out, reAt_at HN.out.1]; have := HJ.out; omega
    | false =>
    have HB43 := Lib.hid h43
    cases h63 : byteAt s j == some 63 with
    | true =>
      have hbt := beq_iff_eq.1 h63
      have HB63 := Lib.hid h63
      have hlt := byteAt_lt hbt
      clear h42 h43 h63
      obtain ⟨j1, hj1⟩ : ∃ j1, j + 1 = j1 := ⟨_, rfl⟩
      have HR : Hid (repL s (.mk 6 0#256 [y]) j1 = R) := Lib.hid (by rw [← HR.out, repL_in hbt, if_neg (by decide), hj1]; rfl)
      clear hbt
      obtain ⟨q, hq⟩ : ∃ q, 6 = q := ⟨_, rfl⟩
      rw [hq] at HR
      have HQ4 : Hid (Value.int IntKind.i64 6 = Value.int IntKind.i64 (q : Int)) := Lib.hid (by rw [← hq]; rfl)
      clear hq
      refine (is_any g s j 42 _ H.out.1).mono ?_
      rintro e w5 ⟨rfl, hk5⟩
      rw [HB42.out]
      replace H := Lib.hid (H.out.kept hk5)
      replace HX := Lib.hid (HX.out.kept hk5)
      clear hk5
      go_wp2_with fail
      refine (is_any g s j 43 _ H.out.1).mono ?_
      rintro e w6 ⟨rfl, hk5⟩
      rw [HB43.out]
      replace H := Lib.hid (H.out.kept hk5)
      replace HX := Lib.hid (HX.out.kept hk5)
      clear hk5
      go_wp2_with fail
      refine (is_any g s j 63 _ H.out.1).mono ?_
      rintro e w7 ⟨rfl, hk5⟩
      rw [HB63.out]
      replace H := Lib.hid (H.out.kept hk5)
      replace HX := Lib.hid (HX.out.kept hk5)
      clear hk5
      go_wp2_with fail
      refine (is_any g s j 43 _ H.out.1).mono ?_
      rintro e w8 ⟨rfl, hk5⟩
      rw [HB43.out]
      replace H := Lib.hid (H.out.kept hk5)
      replace HX := Lib.hid (HX.out.kept hk5)
      clear hk5
      go_wp2_with fail
      refine (is_any g s j 63 _ H.out.1).mono ?_
      rintro e w9 ⟨rfl, hk5⟩
      rw [HB63.out]
      replace H := Lib.hid (H.out.kept hk5)
      replace HX := Lib.hid (HX.out.kept hk5)
      clear hk5
      have hji : (j : Int) + 1 = j1 := by omega
      have hj1b : j1 ≤ s.size := by omega
      have hj1c : j1 ≤ 200 := by omega
      have HJ := Lib.hid hj1
      clear hj1
      obtain ⟨⟨c0, c1, c2, c3⟩, f0, f1, f2, f3⟩ := RO.lay H.out.1
      obtain ⟨⟨x0, x1, x2, x3, x4, x5⟩, y0, y1, y2, y3, y4, y5⟩ := box6 (H.out.blk List.mem_cons_self)
      have hxl := blk_lt (H.out.blk List.mem_cons_self)
      have hgl7 := blk_lt H.out.1
      have hs1 : w.heap.size ≤ w3.heap.size := by rw [World.size_alloc] at hsz; omega
      have hs2 : w.heap.size < w3.heap.size := by rw [World.size_alloc] at hsz; omega
      have hszw : (((((((w9.setCell ⟨g, 1, none⟩ (.int .i64 j1)).setCell ⟨w3.heap.size, 0, none⟩ (.int .i64 q)).setCell ⟨w3.heap.size, 1, none⟩ (.int .u64 0)).setCell ⟨w3.heap.size, 2, none⟩ (.int .u64 0)).setCell ⟨w3.heap.size, 3, none⟩ (.int .u64 0)).setCell ⟨w3.heap.size, 4, none⟩ (.int .u64 0)).setCell ⟨w3.heap.size, 5, none⟩ (.slice (some ⟨w9.heap.size, 0, none⟩) 1 1)).heap.size = w9.heap.size := by simp [World.setCell]
      have hst : StO g (RO s j1) [(w.heap.size, (.cells #[.int .i64 0, .int .u64 0, .int .u64 0, .int .u64 0, .int .u64 0, .slice none 0 0] 26))] w (((((((w9.setCell ⟨g, 1, none⟩ (.int .i64 j1)).setCell ⟨w3.heap.size, 0, none⟩ (.int .i64 q)).setCell ⟨w3.heap.size, 1, none⟩ (.int .u64 0)).setCell ⟨w3.heap.size, 2, none⟩ (.int .u64 0)).setCell ⟨w3.heap.size, 3, none⟩ (.int .u64 0)).setCell ⟨w3.heap.size, 4, none⟩ (.int .u64 0)).setCell ⟨w3.heap.size, 5, none⟩ (.slice (some ⟨w9.heap.size, 0, none⟩) 1 1)) := (((((((H.out.drop.at (k' := j1)).side (p := ⟨w3.heap.size, 0, none⟩) hs1 hxg (by simp; omega) _).side (p := ⟨w3.heap.size, 1, none⟩) hs1 hxg (by simp; omega) _).side (p := ⟨w3.heap.size, 2, none⟩) hs1 hxg (by simp; omega) _).side (p := ⟨w3.heap.size, 3, none⟩) hs1 hxg (by simp; omega) _).side (p := ⟨w3.heap.size, 4, none⟩) hs1 hxg (by simp; omega) _).side (p := ⟨w3.heap.size, 5, none⟩) hs1 hxg (by simp; omega) _)
      have hxb : (((((((w9.setCell ⟨g, 1, none⟩ (.int .i64 j1)).setCell ⟨w3.heap.size, 0, none⟩ (.int .i64 q)).setCell ⟨w3.heap.size, 1, none⟩ (.int .u64 0)).setCell ⟨w3.heap.size, 2, none⟩ (.int .u64 0)).setCell ⟨w3.heap.size, 3, none⟩ (.int .u64 0)).setCell ⟨w3.heap.size, 4, none⟩ (.int .u64 0)).setCell ⟨w3.heap.size, 5, none⟩ (.slice (some ⟨w9.heap.size, 0, none⟩) 1 1)).heap[w3.heap.size]? = some (.cells #[.int .i64 q, wd 0#256 0, wd 0#256 1, wd 0#256 2, wd 0#256 3, .slice (some ⟨w9.heap.size, 0, none⟩) 1 1] 26 (0, 0)) := by
        simp only [wd_zero]
        exact blk_set6 (blk_aside (H.out.blk List.mem_cons_self) (by simp only []; omega) _) _ _ _ _ _ _
      have hrx : ReAt (fun k => w.heap.size + 1 ≤ k ∧ k ≠ w3.heap.size) (((((((w9.setCell ⟨g, 1, none⟩ (.int .i64 j1)).setCell ⟨w3.heap.size, 0, none⟩ (.int .i64 q)).setCell ⟨w3.heap.size, 1, none⟩ (.int .u64 0)).setCell ⟨w3.heap.size, 2, none⟩ (.int .u64 0)).setCell ⟨w3.heap.size, 3, none⟩ (.int .u64 0)).setCell ⟨w3.heap.size, 4, none⟩ (.int .u64 0)).setCell ⟨w3.heap.size, 5, none⟩ (.slice (some ⟨w9.heap.size, 0, none⟩) 1 1)) (re6 o1 s1 (.slice A1 n1 p1)) y := ((((((HX.out.set (p := ⟨g, 1, none⟩) (fun h => by have := h.1; simp only [] at this; omega) _).set (p := ⟨w3.heap.size, 0, none⟩) (fun h => h.2 rfl) _).set (p := ⟨w3.heap.size, 1, none⟩) (fun h => h.2 rfl) _).set (p := ⟨w3.heap.size, 2, none⟩) (fun h => h.2 rfl) _).set (p := ⟨w3.heap.size, 3, none⟩) (fun h => h.2 rfl) _).set (p := ⟨w3.heap.size, 4, none⟩) (fun h => h.2 rfl) _).set (p := ⟨w3.heap.size, 5, none⟩) (fun h => h.2 rfl) _
      have hnb : ((((((((w9.setCell ⟨g, 1, none⟩ (.int .i64 j1)).setCell ⟨w3.heap.size, 0, none⟩ (.int .i64 q)).setCell ⟨w3.heap.size, 1, none⟩ (.int .u64 0)).setCell ⟨w3.heap.size, 2, none⟩ (.int .u64 0)).setCell ⟨w3.heap.size, 3, none⟩ (.int .u64 0)).setCell ⟨w3.heap.size, 4, none⟩ (.int .u64 0)).setCell ⟨w3.heap.size, 5, none⟩ (.slice (some ⟨w9.heap.size, 0, none⟩) 1 1)).alloc (.cells #[.int .i64 o1, .int .u64 (wdN s1 0), .int .u64 (wdN s1 1), .int .u64 (wdN s1 2), .int .u64 (wdN s1 3), .slice A1 n1 p1] 26)).heap[w9.heap.size]? = some (.cells #[.int .i64 o1, .int .u64 (wdN s1 0), .int .u64 (wdN s1 1), .int .u64 (wdN s1 2), .int .u64 (wdN s1 3), .slice A1 n1 p1] 26) := by
        have := blk_new (((((((w9.setCell ⟨g, 1, none⟩ (.int .i64 j1)).setCell ⟨w3.heap.size, 0, none⟩ (.int .i64 q)).setCell ⟨w3.heap.size, 1, none⟩ (.int .u64 0)).setCell ⟨w3.heap.size, 2, none⟩ (.int .u64 0)).setCell ⟨w3.heap.size, 3, none⟩ (.int .u64 0)).setCell ⟨w3.heap.size, 4, none⟩ (.int .u64 0)).setCell ⟨w3.heap.size, 5, none⟩ (.slice (some ⟨w9.heap.size, 0, none⟩) 1 1)) (.cells #[.int .i64 o1, .int .u64 (wdN s1 0), .int .u64 (wdN s1 1), .int .u64 (wdN s1 2), .int .u64 (wdN s1 3), .slice A1 n1 p1] 26)
        rw [hszw] at this
        exact this
      have HN := Lib.hid ((hst.add hxb hxg).kept ((Kept.refl _).alloc (.cells #[.int .i64 o1, .int .u64 (wdN s1 0), .int .u64 (wdN s1 1), .int .u64 (wdN s1 2), .int .u64 (wdN s1 3), .slice A1 n1 p1] 26)))
      have HW := Lib.hid ((hrx.kept ((Kept.refl _).alloc (.cells #[.int .i64 o1, .int .u64 (wdN s1 0), .int .u64 (wdN s1 1), .int .u64 (wdN s1 2), .int .u64 (wdN s1 3), .slice A1 n1 p1] 26))).wrap hnb ⟨by omega, by omega⟩ q)
      clear hst hxb hrx hnb hszw HX hs1 hs2 H
      go_wp2_with fail
      go_roundw
      case rel => rw [HQ4.out]; exact ⟨j1, .mk q 0#256 [y], q, 1, 1, 0#256, some ⟨w9.heap.size, 0, none⟩, hj1b, HR.out, HW.out, HN.out⟩
      case measure => rw [HQ4.out, HM.out, reAt_at HN.out.1]; have := HJ.out; omega
    | false =>
      have HB63 := Lib.hid h63
      have HR2 : Hid ((y, j) = R) := Lib.hid (by
        rw [← HR.out]
        cases hbt : byteAt s j with
        | none => rw [repL_out hbt]
        | some c =>
          rw [repL_in hbt, if_pos]
          rw [hbt] at h42 h43 h63
          unfold repOp
          rw [if_neg (fun e => by rw [e] at h42; simp at h42), if_neg (fun e => by rw [e] at h43; simp at h43), if_neg (fun e => by rw [e] at h63; simp at h63)])
      clear HR h42 h43 h63
      have HR := HR2
      clear HR2
      refine (is_any g s j 42 _ H.out.1).mono ?_
      rintro e w5 ⟨rfl, hk5⟩
      rw [HB42.out]
      replace H := Lib.hid (H.out.kept hk5)
      replace HX := Lib.hid (HX.out.kept hk5)
      clear hk5
      go_wp2_with fail
      refine (is_any g s j 43 _ H.out.1).mono ?_
      rintro e w6 ⟨rfl, hk5⟩
      rw [HB43.out]
      replace H := Lib.hid (H.out.kept hk5)
      replace HX := Lib.hid (HX.out.kept hk5)
      clear hk5
      go_wp2_with fail
      refine (is_any g s j 63 _ H.out.1).mono ?_
      rintro e w7 ⟨rfl, hk5⟩
      rw [HB63.out]
      replace H := Lib.hid (H.out.kept hk5)
      replace HX := Lib.hid (HX.out.kept hk5)
      clear hk5
      obtain ⟨⟨x0, x1, x2, x3, x4, x5⟩, -⟩ := box6 (H.out.blk List.mem_cons_self)
      obtain ⟨⟨d0, d1, d2, d3, d4, d5⟩, g0, g1, g2, g3, g4, g5⟩ := box6 (H.out.blk (r := w.heap.size) (List.mem_cons_of_mem _ List.mem_cons_self))
      have HF := Lib.hid (ret_reO H.out.drop (Nat.le_refl _) (.int .i64 o1) (.int .u64 (wdN s1 0)) (.int .u64 (wdN s1 1)) (.int .u64 (wdN s1 2)) (.int .u64 (wdN s1 3)) (.slice A1 n1 p1))
      have HY := Lib.hid (pass_re (r := w.heap.size) (S' := (w.heap.size ≤ ·)) HX.out (fun h => by have := h.1; omega) (fun k h => by have := h.1; omega))
      simp only [re6_form, wd_eq] at HY
      go_wp2_with fail
      refine bodyPost_ret (v := re6 o1 s1 (.slice A1 n1 p1)) ?_ rfl ?_
      · simp [results, Try.results54, go_sem, re6_form, d0, d1, d2, d3, d4, d5]
      · rw [← HR.out]
        exact ⟨_, rfl, six_re _ _ _ _ _, HF.out.2.2, HY.out, HF.out.1⟩
theorem rrep_any (g : Nat) (s : ByteArray) (k d n : Nat) (w : World) (h : w.heap[g]? = some (RO s k)) (hs : s.size ≤ 200) (hk : k < s.size) (hd : d + n = 20)
    (HC : ∀ n', n = n' + 1 → ∀ w, w.heap[g]? = some (RO s (k + 1)) → Calls Try.prog 26 #[ptr g, .int .i64 (d + 1 : Nat)] w (RefPost g s (altL (grp s n') s [] (k + 1)) w)) : Calls Try.prog 54 #[ptr g, .int .i64 d] w (RefPost g s (repP (grp s n) s k) w) := by
  have hf := atomP_fw (grp s n) s k (grp_fw s n) hk
  have ha := fun w' (h' : w'.heap[g]? = some (RO s k)) => ratom_any g s k d n w' h' hs hk hd HC
  unfold repP
  cases hR : atomP (grp s n) s k with
  | err er j => rw [hR] at hf ha; exact rrep_err g s k d w h hs er j hf.1 ha
  | ok x j => rw [hR] at hf ha; exact rrep_ok g s k d w h hs x j hf.2 _ (Lib.hid rfl) ha
end Go.Proofs.Ytdbffbdpofodmaa
