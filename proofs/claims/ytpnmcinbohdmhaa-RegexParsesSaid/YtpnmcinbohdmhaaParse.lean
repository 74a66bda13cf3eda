/-
  What regex.Parse reads, of any text. Conditions: none.
-/
import Derived.Test.YtpnmcinbohdmhaaAlt
import Derived.RegionTactic
import Derived.ChangeAlike
set_option linter.unusedSimpArgs false
namespace Go.Proofs.Ytpnmcinbohdmhaa
open Go Go.RowKit Kit
def ParsePost (r : Re × Nat × Nat) (w : World) (e : Ending) (w' : World) : Prop := ∃ u, e = .returned (.tuple #[u, .int .i64 r.2.1, .int .i64 r.2.2]) ∧ ReAt (w.heap.size ≤ ·) w' u r.1 ∧ Kept w w'
theorem parse_long (s : ByteArray) (w : World) (hs : 200 < s.size) : Calls Try.prog 10 #[.string s] w (ParsePost (zeroRe, 0, 3) w) := by
  have hi : (200 : Int) < s.size := by omega
  unfold ParsePost
  go_enter Try.func10, Try.ntmps10
  go_wp2
  refine bodyPost_ret (v := .tuple #[zre, .int .i64 0, .int .i64 3]) ?_ rfl ⟨_, rfl, ?_, ?_⟩
  · simp [results, Try.results10, go_sem, zre]
  · rw [zre_eq]; exact ReAt.leaf _ _ _ _
  · exact (Kept.refl _).alloc _
set_option maxHeartbeats 2000000 in
theorem parse_err (s : ByteArray) (w : World) (hs : s.size ≤ 200) (er k : Nat) (her : 0 < er) (hR : altL (grp s 20) s [] 0 = .err er k) : Calls Try.prog 10 #[.string s] w (ParsePost (zeroRe, k, er) w) := by
  unfold ParsePost
  have HG := Lib.hid (show Rd (w.heap.size + 1) s 0 0 ((w.alloc (.cells #[.int .i64 0, .int .u64 0, .int .u64 0, .int .u64 0, .int .u64 0, .slice none 0 0] 27)).alloc (.cells #[.string s, .int .i64 0, .int .i64 0] 46)) from (alloc2 w (.cells #[.int .i64 0, .int .u64 0, .int .u64 0, .int .u64 0, .int .u64 0, .slice none 0 0] 27) (.cells #[.string s, .int .i64 0, .int .i64 0] 46)).2.1)
  have HZ := Lib.hid (alloc2 w (.cells #[.int .i64 0, .int .u64 0, .int .u64 0, .int .u64 0, .int .u64 0, .slice none 0 0] 27) (.cells #[.string s, .int .i64 0, .int .i64 0] 46)).1
  have HK := Lib.hid (alloc2 w (.cells #[.int .i64 0, .int .u64 0, .int .u64 0, .int .u64 0, .int .u64 0, .slice none 0 0] 27) (.cells #[.string s, .int .i64 0, .int .i64 0] 46)).2.2
  have HQ := Lib.hid (alt_all 20 (w.heap.size + 1) s 0 0 _ HG.out hs (by omega) rfl)
  rw [hR] at HQ
  unfold RePost ptr at HQ
  clear hR
  have hi : (s.size : Int) ≤ 200 := by omega
  go_enter Try.func10, Try.ntmps10
  go_wp2_with fail
  refine HQ.out.mono ?_
  rintro e w3 ⟨rfl, ⟨op', h2⟩, h3⟩
  have hne : ¬ (er : Int) = 0 := by omega
  have HB := Lib.hid (h3.blk HZ.out (by omega))
  have HKK := Lib.hid (Gr.above HK.out h3 (by omega))
  have hgl := h2.lt
  have hrl := blk_lt HB.out
  obtain ⟨⟨c0, c1, c2⟩, f0, f1, f2⟩ := h2.cells
  obtain ⟨⟨d0, d1, d2, d3, d4, d5⟩, g0, g1, g2, g3, g4, g5⟩ := box6 HB.out
  clear h2 h3 HQ HG HZ HK
  unfold zre
  go_wp2_with fail
  go_region
  go_wp2_with fail
  refine bodyPost_ret (v := .tuple #[zre, .int .i64 k, .int .i64 er]) ?_ rfl ⟨_, rfl, ?_, ?_⟩
  · simp [results, Try.results10, go_sem, zre, hrl, d0, d1, d2, d3, d4, d5]
  · rw [zre_eq]; exact ReAt.leaf _ _ _ _
  · exact (((((((HKK.out.setCell (Nat.le_refl _) _).setCell (Nat.le_refl _) _).setCell (Nat.le_refl _) _).setCell (Nat.le_refl _) _).setCell (Nat.le_refl _) _).setCell (Nat.le_refl _) _).alloc _).drew
set_option maxHeartbeats 2000000 in
theorem parse_rest (s : ByteArray) (w : World) (hs : s.size ≤ 200) (x : Re) (k : Nat) (hk : k < s.size) (hR : altL (grp s 20) s [] 0 = .ok x k) : Calls Try.prog 10 #[.string s] w (ParsePost (zeroRe, k, 2) w) := by
  have hki : (k : Int) < s.size := by omega
  unfold ParsePost
  have HG := Lib.hid (show Rd (w.heap.size + 1) s 0 0 ((w.alloc (.cells #[.int .i64 0, .int .u64 0, .int .u64 0, .int .u64 0, .int .u64 0, .slice none 0 0] 27)).alloc (.cells #[.string s, .int .i64 0, .int .i64 0] 46)) from (alloc2 w (.cells #[.int .i64 0, .int .u64 0, .int .u64 0, .int .u64 0, .int .u64 0, .slice none 0 0] 27) (.cells #[.string s, .int .i64 0, .int .i64 0] 46)).2.1)
  have HZ := Lib.hid (alloc2 w (.cells #[.int .i64 0, .int .u64 0, .int .u64 0, .int .u64 0, .int .u64 0, .slice none 0 0] 27) (.cells #[.string s, .int .i64 0, .int .i64 0] 46)).1
  have HK := Lib.hid (alloc2 w (.cells #[.int .i64 0, .int .u64 0, .int .u64 0, .int .u64 0, .int .u64 0, .slice none 0 0] 27) (.cells #[.string s, .int .i64 0, .int .i64 0] 46)).2.2
  have HQ := Lib.hid (alt_all 20 (w.heap.size + 1) s 0 0 _ HG.out hs (by omega) rfl)
  rw [hR] at HQ
  unfold RePost ptr at HQ
  clear hR
  have hi : (s.size : Int) ≤ 200 := by omega
  go_enter Try.func10, Try.ntmps10
  go_wp2_with fail
  refine HQ.out.mono ?_
  rintro e w3 ⟨u, rfl, hx, h2, h3⟩
  obtain ⟨o1, s1, A1, n1, p1, rfl⟩ := hx.form
  have HX : Hid (ReAt (w.heap.size + 1 ≤ ·) w3 (re6 o1 s1 (.slice A1 n1 p1)) x) := Lib.hid (hx.weak fun k _ hk => by
    have := HG.out.lt
    omega)
  have HB := Lib.hid (h3.blk HZ.out (by omega))
  have HKK := Lib.hid (Gr.above HK.out h3 (by omega))
  have hgl := h2.lt
  have hrl := blk_lt HB.out
  obtain ⟨⟨c0, c1, c2⟩, f0, f1, f2⟩ := h2.cells
  obtain ⟨⟨d0, d1, d2, d3, d4, d5⟩, g0, g1, g2, g3, g4, g5⟩ := box6 HB.out
  clear h2 h3 HQ HG HZ HK hx
  simp only [re6_form]
  go_wp2_with fail
  go_region
  go_wp2_with fail
  refine bodyPost_ret (v := .tuple #[zre, .int .i64 k, .int .i64 2]) ?_ rfl ⟨_, rfl, ?_, ?_⟩
  · simp [results, Try.results10, go_sem, zre, hrl, d0, d1, d2, d3, d4, d5]
  · rw [zre_eq]; exact ReAt.leaf _ _ _ _
  · exact (((((((HKK.out.setCell (Nat.le_refl _) _).setCell (Nat.le_refl _) _).setCell (Nat.le_refl _) _).setCell (Nat.le_refl _) _).setCell (Nat.le_refl _) _).setCell (Nat.le_refl _) _).alloc _).drew
set_option maxHeartbeats 2000000 in
theorem parse_ok (s : ByteArray) (w : World) (hs : s.size ≤ 200) (x : Re) (k : Nat) (hk : ¬ k < s.size) (hR : altL (grp s 20) s [] 0 = .ok x k) : Calls Try.prog 10 #[.string s] w (ParsePost (x, k, 0) w) := by
  have hki : ¬ (k : Int) < s.size := by omega
  unfold ParsePost
  have HG := Lib.hid (show Rd (w.heap.size + 1) s 0 0 ((w.alloc (.cells #[.int .i64 0, .int .u64 0, .int .u64 0, .int .u64 0, .int .u64 0, .slice none 0 0] 27)).alloc (.cells #[.string s, .int .i64 0, .int .i64 0] 46)) from (alloc2 w (.cells #[.int .i64 0, .int .u64 0, .int .u64 0, .int .u64 0, .int .u64 0, .slice none 0 0] 27) (.cells #[.string s, .int .i64 0, .int .i64 0] 46)).2.1)
  have HZ := Lib.hid (alloc2 w (.cells #[.int .i64 0, .int .u64 0, .int .u64 0, .int .u64 0, .int .u64 0, .slice none 0 0] 27) (.cells #[.string s, .int .i64 0, .int .i64 0] 46)).1
  have HK := Lib.hid (alloc2 w (.cells #[.int .i64 0, .int .u64 0, .int .u64 0, .int .u64 0, .int .u64 0, .slice none 0 0] 27) (.cells #[.string s, .int .i64 0, .int .i64 0] 46)).2.2
  have HQ := Lib.hid (alt_all 20 (w.heap.size + 1) s 0 0 _ HG.out hs (by omega) rfl)
  rw [hR] at HQ
  unfold RePost ptr at HQ
  clear hR
  have hi : (s.size : Int) ≤ 200 := by omega
  go_enter Try.func10, Try.ntmps10
  go_wp2_with fail
  refine HQ.out.mono ?_
  rintro e w3 ⟨u, rfl, hx, h2, h3⟩
  obtain ⟨o1, s1, A1, n1, p1, rfl⟩ := hx.form
  have HX : Hid (ReAt (w.heap.size + 1 ≤ ·) w3 (re6 o1 s1 (.slice A1 n1 p1)) x) := Lib.hid (hx.weak fun k _ hk => by
    have := HG.out.lt
    omega)
  have HB := Lib.hid (h3.blk HZ.out (by omega))
  have HKK := Lib.hid (Gr.above HK.out h3 (by omega))
  have hgl := h2.lt
  have hrl := blk_lt HB.out
  obtain ⟨⟨c0, c1, c2⟩, f0, f1, f2⟩ := h2.cells
  obtain ⟨⟨d0, d1, d2, d3, d4, d5⟩, g0, g1, g2, g3, g4, g5⟩ := box6 HB.out
  clear h2 h3 HQ HG HZ HK hx
  simp only [re6_form]
  go_wp2_with fail
  go_region
  go_wp2_with fail
  refine bodyPost_ret (v := .tuple #[re6 o1 s1 (.slice A1 n1 p1), .int .i64 k, .int .i64 0]) ?_ rfl ⟨_, rfl, ?_, ?_⟩
  · simp [results, Try.results10, go_sem, re6_form, hrl, d0, d1, d2, d3, d4, d5]
  · have hne : ¬ (w.heap.size + 1 ≤ w.heap.size) := by omega
    have h1 := ((((((HX.out.set (p := ⟨w.heap.size, 0, none⟩) hne (.int .i64 o1)).set (p := ⟨w.heap.size, 1, none⟩) hne (.int .u64 (wdN s1 0))).set (p := ⟨w.heap.size, 2, none⟩) hne (.int .u64 (wdN s1 1))).set (p := ⟨w.heap.size, 3, none⟩) hne (.int .u64 (wdN s1 2))).set (p := ⟨w.heap.size, 4, none⟩) hne (.int .u64 (wdN s1 3))).set (p := ⟨w.heap.size, 5, none⟩) hne (.slice A1 n1 p1))
    exact (h1.kept (((Kept.refl _).alloc _).drew)).weak fun k _ hS => by omega
  · exact (((((((HKK.out.setCell (Nat.le_refl _) _).setCell (Nat.le_refl _) _).setCell (Nat.le_refl _) _).setCell (Nat.le_refl _) _).setCell (Nat.le_refl _) _).setCell (Nat.le_refl _) _).alloc _).drew
theorem Parse_any (s : ByteArray) (w : World) : Calls Try.prog 10 #[.string s] w (ParsePost (parseP s) w) := by
  unfold parseP
  by_cases hs : 200 < s.size
  · rw [if_pos hs]; exact parse_long s w hs
  · rw [if_neg hs]
    have hf := altL_fz (grp s 20) s (grp_fw s 20) _ [] 0 (Nat.le_refl _) (by omega)
    cases hR : altL (grp s 20) s [] 0 with
    | err er k => rw [hR] at hf; exact parse_err s w (by omega) er k hf.1 hR
    | ok x k =>
      simp only
      by_cases hk : k < s.size
      · rw [if_pos hk]; exact parse_rest s w (by omega) x k hk hR
      · rw [if_neg hk]; exact parse_ok s w (by omega) x k hk hR
theorem num_any (x : Int) (w : World) : Calls Try.prog 13 #[.int .i64 x] w fun e w' => e = .returned (.int .i64 x) ∧ w = w' := by
  go_enter Try.func13, Try.ntmps13
  go_wp2
  go_ret
  exact ⟨rfl, rfl⟩
end Go.Proofs.Ytpnmcinbohdmhaa
