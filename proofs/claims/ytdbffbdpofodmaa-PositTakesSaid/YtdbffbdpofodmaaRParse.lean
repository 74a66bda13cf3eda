/-
  What the document's own Parse reads, of any text. Conditions: none.
-/
import Derived.Test.YtdbffbdpofodmaaRAlt
import Derived.RegionTactic
import Derived.ChangeAlike
set_option linter.unusedSimpArgs false
namespace Go.Proofs.Ytdbffbdpofodmaa
open Go Go.RowKit Kit
theorem rparse_long (s : ByteArray) (w : World) (hs : 200 < s.size) : Calls Try.prog 14 #[.string s] w (ParsePost (zeroRe, 0, 3) w) := by
  have hi : (200 : Int) < s.size := by omega
  unfold ParsePost
  go_enter Try.func14, Try.ntmps14
  go_wp2
  refine bodyPost_ret (v := .tuple #[zre, .int .i64 0, .int .i64 3]) ?_ rfl ⟨_, rfl, ?_, ?_⟩
  · simp [results, Try.results14, go_sem, zre]
  · rw [zre_eq]; exact ReAt.leaf _ _ _ _
  · exact (Kept.refl _).alloc _
set_option maxHeartbeats 2000000 in
theorem rparse_err (s : ByteArray) (w : World) (hs : s.size ≤ 200) (er k : Nat) (her : 0 < er) (hR : altL (grp s 20) s [] 0 = .err er k) : Calls Try.prog 14 #[.string s] w (ParsePost (zeroRe, k, er) w) := by
  unfold ParsePost
  have HG := Lib.hid (show ((w.alloc (.cells #[.int .i64 0, .int .u64 0, .int .u64 0, .int .u64 0, .int .u64 0, .slice none 0 0] 26)).alloc (.cells #[.string s, .int .i64 0, .int .i64 0, .int .i64 0] 78)).heap[w.heap.size + 1]? = some (RO s 0) from (alloc2 w (.cells #[.int .i64 0, .int .u64 0, .int .u64 0, .int .u64 0, .int .u64 0, .slice none 0 0] 26) (.cells #[.string s, .int .i64 0, .int .i64 0, .int .i64 0] 78)).2.1)
  have HZ := Lib.hid (alloc2 w (.cells #[.int .i64 0, .int .u64 0, .int .u64 0, .int .u64 0, .int .u64 0, .slice none 0 0] 26) (.cells #[.string s, .int .i64 0, .int .i64 0, .int .i64 0] 78)).1
  have HK := Lib.hid (alloc2 w (.cells #[.int .i64 0, .int .u64 0, .int .u64 0, .int .u64 0, .int .u64 0, .slice none 0 0] 26) (.cells #[.string s, .int .i64 0, .int .i64 0, .int .i64 0] 78)).2.2
  have HQ := Lib.hid (ralt_all 20 (w.heap.size + 1) s 0 0 _ HG.out hs (by omega) rfl)
  rw [hR] at HQ
  unfold RefPost ptr at HQ
  clear hR
  have hi : (s.size : Int) ≤ 200 := by omega
  go_enter Try.func14, Try.ntmps14
  go_wp2_with fail
  refine HQ.out.mono ?_
  rintro e w3 ⟨u, rfl, hu, h3, a, h2⟩
  obtain ⟨o1, s1, A1, n1, p1, rfl⟩ := hu
  have hne : ¬ (er : Int) = 0 := by omega
  have hne2 : ((er : Int) == 0) = false := by simpa using hne
  have HB := Lib.hid (h3.blk HZ.out (by omega))
  have HKK := Lib.hid (Gr.above HK.out h3 (by omega))
  have HO := Lib.hid h2
  have hgl := blk_lt h2
  have hrl := blk_lt HB.out
  clear h2 h3 HQ HG HZ HK
  obtain ⟨⟨d0, d1, d2, d3, d4, d5⟩, g0, g1, g2, g3, g4, g5⟩ := box6 HB.out
  obtain ⟨⟨c0, c1, c2, c3⟩, f0, f1, f2, f3⟩ := RF.lay HO.out
  simp only [re6_form]
  go_wp2_with fail
  go_region
  go_wp2_with fail
  refine bodyPost_ret (v := .tuple #[zre, .int .i64 k, .int .i64 er]) ?_ rfl ⟨_, rfl, ?_, ?_⟩
  · simp [results, Try.results14, go_sem, zre, hrl, d0, d1, d2, d3, d4, d5]
  · rw [zre_eq]; exact ReAt.leaf _ _ _ _
  · exact (((((((HKK.out.setCell (Nat.le_refl _) _).setCell (Nat.le_refl _) _).setCell (Nat.le_refl _) _).setCell (Nat.le_refl _) _).setCell (Nat.le_refl _) _).setCell (Nat.le_refl _) _).alloc _).drew
set_option maxHeartbeats 2000000 in
theorem rparse_rest (s : ByteArray) (w : World) (hs : s.size ≤ 200) (x : Re) (k : Nat) (hk : k < s.size) (hR : altL (grp s 20) s [] 0 = .ok x k) : Calls Try.prog 14 #[.string s] w (ParsePost (zeroRe, k, 2) w) := by
  have hki : (k : Int) < s.size := by omega
  unfold ParsePost
  have HG := Lib.hid (show ((w.alloc (.cells #[.int .i64 0, .int .u64 0, .int .u64 0, .int .u64 0, .int .u64 0, .slice none 0 0] 26)).alloc (.cells #[.string s, .int .i64 0, .int .i64 0, .int .i64 0] 78)).heap[w.heap.size + 1]? = some (RO s 0) from (alloc2 w (.cells #[.int .i64 0, .int .u64 0, .int .u64 0, .int .u64 0, .int .u64 0, .slice none 0 0] 26) (.cells #[.string s, .int .i64 0, .int .i64 0, .int .i64 0] 78)).2.1)
  have HZ := Lib.hid (alloc2 w (.cells #[.int .i64 0, .int .u64 0, .int .u64 0, .int .u64 0, .int .u64 0, .slice none 0 0] 26) (.cells #[.string s, .int .i64 0, .int .i64 0, .int .i64 0] 78)).1
  have HK := Lib.hid (alloc2 w (.cells #[.int .i64 0, .int .u64 0, .int .u64 0, .int .u64 0, .int .u64 0, .slice none 0 0] 26) (.cells #[.string s, .int .i64 0, .int .i64 0, .int .i64 0] 78)).2.2
  have HQ := Lib.hid (ralt_all 20 (w.heap.size + 1) s 0 0 _ HG.out hs (by omega) rfl)
  rw [hR] at HQ
  unfold RefPost ptr at HQ
  clear hR
  have hi : (s.size : Int) ≤ 200 := by omega
  go_enter Try.func14, Try.ntmps14
  go_wp2_with fail
  refine HQ.out.mono ?_
  rintro e w3 ⟨u, rfl, hu, h3, hx, h2⟩
  obtain ⟨o1, s1, A1, n1, p1, rfl⟩ := hu
  have HX : Hid (ReAt (w.heap.size + 1 ≤ ·) (w3.alloc (.cells #[.int .i64 o1, .int .u64 (wdN s1 0), .int .u64 (wdN s1 1), .int .u64 (wdN s1 2), .int .u64 (wdN s1 3), .slice A1 n1 p1] 26)) (re6 o1 s1 (.slice A1 n1 p1)) x) := Lib.hid ((hx.weak fun k _ hk => by
    have := blk_lt HG.out
    omega).kept ((Kept.refl _).alloc _))
  have HB := Lib.hid (blk_old w3 (.cells #[.int .i64 o1, .int .u64 (wdN s1 0), .int .u64 (wdN s1 1), .int .u64 (wdN s1 2), .int .u64 (wdN s1 3), .slice A1 n1 p1] 26) (h3.blk HZ.out (by omega)))
  have HKK := Lib.hid ((Gr.above HK.out h3 (by omega)).alloc (.cells #[.int .i64 o1, .int .u64 (wdN s1 0), .int .u64 (wdN s1 1), .int .u64 (wdN s1 2), .int .u64 (wdN s1 3), .slice A1 n1 p1] 26))
  have HO := Lib.hid (blk_old w3 (.cells #[.int .i64 o1, .int .u64 (wdN s1 0), .int .u64 (wdN s1 1), .int .u64 (wdN s1 2), .int .u64 (wdN s1 3), .slice A1 n1 p1] 26) h2)
  have HN := Lib.hid (blk_new w3 (.cells #[.int .i64 o1, .int .u64 (wdN s1 0), .int .u64 (wdN s1 1), .int .u64 (wdN s1 2), .int .u64 (wdN s1 3), .slice A1 n1 p1] 26))
  have hn3 := blk_lt h2
  clear h2 h3 HQ HG HZ HK hx
  obtain ⟨⟨c0, c1, c2, c3⟩, f0, f1, f2, f3⟩ := RO.lay HO.out
  simp only [re6_form]
  go_wp2_with fail
  clear c0 c1 c2 c3 f0 f1 f2 f3
  generalize w3.alloc _ = w4 at HX HB HKK HO HN ⊢
  refine (over_any (w.heap.size + 1) s k _ HO.out).mono ?_
  rintro e w5 ⟨rfl, hk5⟩
  rw [show decide (s.size ≤ k) = false from by simp; omega]
  replace HX := Lib.hid (HX.out.kept hk5)
  replace HB := Lib.hid (hk5.blk HB.out)
  replace HN := Lib.hid (hk5.blk HN.out)
  replace HO := Lib.hid (hk5.blk HO.out)
  replace HKK := Lib.hid (HKK.out.trans hk5)
  clear hk5
  obtain ⟨⟨c0, c1, c2, c3⟩, f0, f1, f2, f3⟩ := RO.lay HO.out
  go_wp2_with fail
  clear c0 c1 c2 c3 f0 f1 f2 f3
  refine (fail_any (w.heap.size + 1) s k 2 k _ HO.out).mono ?_
  rintro e w6 ⟨rfl, h1, h2⟩
  have HB2 := Lib.hid (h2.blk HB.out (by omega))
  have HKK2 := Lib.hid (Gr.above HKK.out h2 (by omega))
  have HO2 := Lib.hid h1
  clear h1 h2 HB HKK HO
  have HB := HB2
  have HKK := HKK2
  have HO := HO2
  clear HB2 HKK2 HO2
  obtain ⟨⟨d0, d1, d2, d3, d4, d5⟩, g0, g1, g2, g3, g4, g5⟩ := box6 HB.out
  obtain ⟨⟨c0, c1, c2, c3⟩, f0, f1, f2, f3⟩ := RF.lay HO.out
  go_wp2_with fail
  go_region
  go_wp2_with fail
  refine bodyPost_ret (v := .tuple #[zre, .int .i64 k, .int .i64 2]) ?_ rfl ⟨_, rfl, ?_, ?_⟩
  · simp [results, Try.results14, go_sem, zre, d0, d1, d2, d3, d4, d5]
  · rw [zre_eq]; exact ReAt.leaf _ _ _ _
  · exact (((((((HKK.out.setCell (Nat.le_refl _) _).setCell (Nat.le_refl _) _).setCell (Nat.le_refl _) _).setCell (Nat.le_refl _) _).setCell (Nat.le_refl _) _).setCell (Nat.le_refl _) _)).drew
set_option maxHeartbeats 2000000 in
theorem rparse_ok (s : ByteArray) (w : World) (hs : s.size ≤ 200) (x : Re) (k : Nat) (hk : k = s.size) (hR : altL (grp s 20) s [] 0 = .ok x k) : Calls Try.prog 14 #[.string s] w (ParsePost (x, s.size, 0) w) := by
  have hki : ¬ (k : Int) < s.size := by omega
  unfold ParsePost
  have HG := Lib.hid (show ((w.alloc (.cells #[.int .i64 0, .int .u64 0, .int .u64 0, .int .u64 0, .int .u64 0, .slice none 0 0] 26)).alloc (.cells #[.string s, .int .i64 0, .int .i64 0, .int .i64 0] 78)).heap[w.heap.size + 1]? = some (RO s 0) from (alloc2 w (.cells #[.int .i64 0, .int .u64 0, .int .u64 0, .int .u64 0, .int .u64 0, .slice none 0 0] 26) (.cells #[.string s, .int .i64 0, .int .i64 0, .int .i64 0] 78)).2.1)
  have HZ := Lib.hid (alloc2 w (.cells #[.int .i64 0, .int .u64 0, .int .u64 0, .int .u64 0, .int .u64 0, .slice none 0 0] 26) (.cells #[.string s, .int .i64 0, .int .i64 0, .int .i64 0] 78)).1
  have HK := Lib.hid (alloc2 w (.cells #[.int .i64 0, .int .u64 0, .int .u64 0, .int .u64 0, .int .u64 0, .slice none 0 0] 26) (.cells #[.string s, .int .i64 0, .int .i64 0, .int .i64 0] 78)).2.2
  have HQ := Lib.hid (ralt_all 20 (w.heap.size + 1) s 0 0 _ HG.out hs (by omega) rfl)
  rw [hR] at HQ
  unfold RefPost ptr at HQ
  clear hR
  have hi : (s.size : Int) ≤ 200 := by omega
  go_enter Try.func14, Try.ntmps14
  go_wp2_with fail
  refine HQ.out.mono ?_
  rintro e w3 ⟨u, rfl, hu, h3, hx, h2⟩
  obtain ⟨o1, s1, A1, n1, p1, rfl⟩ := hu
  have HX : Hid (ReAt (w.heap.size + 1 ≤ ·) (w3.alloc (.cells #[.int .i64 o1, .int .u64 (wdN s1 0), .int .u64 (wdN s1 1), .int .u64 (wdN s1 2), .int .u64 (wdN s1 3), .slice A1 n1 p1] 26)) (re6 o1 s1 (.slice A1 n1 p1)) x) := Lib.hid ((hx.weak fun k _ hk => by
    have := blk_lt HG.out
    omega).kept ((Kept.refl _).alloc _))
  have HB := Lib.hid (blk_old w3 (.cells #[.int .i64 o1, .int .u64 (wdN s1 0), .int .u64 (wdN s1 1), .int .u64 (wdN s1 2), .int .u64 (wdN s1 3), .slice A1 n1 p1] 26) (h3.blk HZ.out (by omega)))
  have HKK := Lib.hid ((Gr.above HK.out h3 (by omega)).alloc (.cells #[.int .i64 o1, .int .u64 (wdN s1 0), .int .u64 (wdN s1 1), .int .u64 (wdN s1 2), .int .u64 (wdN s1 3), .slice A1 n1 p1] 26))
  have HO := Lib.hid (blk_old w3 (.cells #[.int .i64 o1, .int .u64 (wdN s1 0), .int .u64 (wdN s1 1), .int .u64 (wdN s1 2), .int .u64 (wdN s1 3), .slice A1 n1 p1] 26) h2)
  have HN := Lib.hid (blk_new w3 (.cells #[.int .i64 o1, .int .u64 (wdN s1 0), .int .u64 (wdN s1 1), .int .u64 (wdN s1 2), .int .u64 (wdN s1 3), .slice A1 n1 p1] 26))
  have hn3 := blk_lt h2
  clear h2 h3 HQ HG HZ HK hx
  obtain ⟨⟨c0, c1, c2, c3⟩, f0, f1, f2, f3⟩ := RO.lay HO.out
  simp only [re6_form]
  go_wp2_with fail
  clear c0 c1 c2 c3 f0 f1 f2 f3
  generalize w3.alloc _ = w4 at HX HB HKK HO HN ⊢
  refine (over_any (w.heap.size + 1) s k _ HO.out).mono ?_
  rintro e w5 ⟨rfl, hk5⟩
  rw [show decide (s.size ≤ k) = true from by simp; omega]
  replace HX := Lib.hid (HX.out.kept hk5)
  replace HB := Lib.hid (hk5.blk HB.out)
  replace HN := Lib.hid (hk5.blk HN.out)
  replace HO := Lib.hid (hk5.blk HO.out)
  replace HKK := Lib.hid (HKK.out.trans hk5)
  clear hk5
  obtain ⟨⟨c0, c1, c2, c3⟩, f0, f1, f2, f3⟩ := RO.lay HO.out
  obtain ⟨⟨d0, d1, d2, d3, d4, d5⟩, g0, g1, g2, g3, g4, g5⟩ := box6 HB.out
  obtain ⟨⟨x0, x1, x2, x3, x4, x5⟩, -⟩ := box6 HN.out
  go_wp2_with fail
  refine bodyPost_ret (v := .tuple #[re6 o1 s1 (.slice A1 n1 p1), .int .i64 s.size, .int .i64 0]) ?_ rfl ⟨_, rfl, ?_, ?_⟩
  · simp [results, Try.results14, go_sem, re6_form, d0, d1, d2, d3, d4, d5]
  · have hne : ¬ (w.heap.size + 1 ≤ w.heap.size) := by omega
    have h1 := ((((((HX.out.set (p := ⟨w.heap.size, 0, none⟩) hne (.int .i64 o1)).set (p := ⟨w.heap.size, 1, none⟩) hne (.int .u64 (wdN s1 0))).set (p := ⟨w.heap.size, 2, none⟩) hne (.int .u64 (wdN s1 1))).set (p := ⟨w.heap.size, 3, none⟩) hne (.int .u64 (wdN s1 2))).set (p := ⟨w.heap.size, 4, none⟩) hne (.int .u64 (wdN s1 3))).set (p := ⟨w.heap.size, 5, none⟩) hne (.slice A1 n1 p1))
    exact h1.weak fun k _ hS => by omega
  · exact (((((((HKK.out.setCell (Nat.le_refl _) _).setCell (Nat.le_refl _) _).setCell (Nat.le_refl _) _).setCell (Nat.le_refl _) _).setCell (Nat.le_refl _) _).setCell (Nat.le_refl _) _))
theorem RParse_any (s : ByteArray) (w : World) : Calls Try.prog 14 #[.string s] w (ParsePost (parseP s) w) := by
  unfold parseP
  by_cases hs : 200 < s.size
  · rw [if_pos hs]; exact rparse_long s w hs
  · rw [if_neg hs]
    have hf := altL_fz (grp s 20) s (grp_fw s 20) _ [] 0 (Nat.le_refl _) (by omega)
    cases hR : altL (grp s 20) s [] 0 with
    | err er k => rw [hR] at hf; exact rparse_err s w (by omega) er k hf.1 hR
    | ok x k =>
      rw [hR] at hf
      simp only
      by_cases hk : k < s.size
      · rw [if_pos hk]; exact rparse_rest s w (by omega) x k hk hR
      · rw [if_neg hk]
        have e : k = s.size := by have := hf.2; omega
        have := rparse_ok s w (by omega) x k e hR
        rw [← e] at this
        exact this
end Go.Proofs.Ytdbffbdpofodmaa
