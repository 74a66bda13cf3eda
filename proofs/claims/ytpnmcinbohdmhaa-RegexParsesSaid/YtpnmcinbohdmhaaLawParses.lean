/-
  For every text the law RegexParses returns true. Conditions: none.
-/
import Derived.Test.YtpnmcinbohdmhaaRParse
import Derived.Test.YtpnmcinbohdmhaaSame
set_option linter.unusedSimpArgs false
namespace Go.Proofs.Ytpnmcinbohdmhaa
open Go Go.RowKit Kit
set_option maxHeartbeats 4000000 in
theorem lawParses_any (s : ByteArray) (w : World) : Calls Try.prog 3 #[.string s] w fun e w' => e = .returned (.bool true) ∧ Kept w w' := by
  by_cases hl : 300 < s.size
  · have hi : (300 : Int) < s.size := by omega
    go_enter Try.func3, Try.ntmps3
    go_wp2_with fail
    refine (alive_any w).mono ?_
    rintro e w1 ⟨rfl, hk⟩
    have HK := Lib.hid hk
    clear hk
    go_wp2_with fail
    go_ret
    exact ⟨rfl, HK.out⟩
  · have hi : (s.size : Int) ≤ 300 := by omega
    obtain ⟨x, at0, er, hp⟩ : ∃ x at0 er, parseP s = (x, at0, er) := ⟨_, _, _, rfl⟩
    have HP := Lib.hid hp
    clear hp
    go_enter Try.func3, Try.ntmps3
    go_wp2_with fail
    refine (alive_any w).mono ?_
    rintro e w1 ⟨rfl, hk⟩
    have HK := Lib.hid hk
    clear hk
    go_wp2_with fail
    refine (Parse_any s w1).mono ?_
    rw [HP.out]
    rintro e w2 ⟨u, rfl, hx, hk⟩
    obtain ⟨o1, s1, A1, n1, p1, rfl⟩ := hx.form
    have HX := Lib.hid (hx.kept ((Kept.refl _).alloc (.cells #[.int .i64 o1, .int .u64 (wdN s1 0), .int .u64 (wdN s1 1), .int .u64 (wdN s1 2), .int .u64 (wdN s1 3), .slice A1 n1 p1] 27)))
    have HB := Lib.hid (blk_new w2 (.cells #[.int .i64 o1, .int .u64 (wdN s1 0), .int .u64 (wdN s1 1), .int .u64 (wdN s1 2), .int .u64 (wdN s1 3), .slice A1 n1 p1] 27))
    replace HK := Lib.hid ((HK.out.trans hk).alloc (.cells #[.int .i64 o1, .int .u64 (wdN s1 0), .int .u64 (wdN s1 1), .int .u64 (wdN s1 2), .int .u64 (wdN s1 3), .slice A1 n1 p1] 27))
    have hz : (w2.alloc (.cells #[.int .i64 o1, .int .u64 (wdN s1 0), .int .u64 (wdN s1 1), .int .u64 (wdN s1 2), .int .u64 (wdN s1 3), .slice A1 n1 p1] 27)).heap.size = w2.heap.size + 1 := by simp
    clear hk hx
    simp only [re6_form]
    go_wp2_with fail
    generalize w2.alloc _ = w3 at HX HB HK hz ⊢
    refine (RParse_any s w3).mono ?_
    rw [HP.out]
    rintro e w4 ⟨u, rfl, hx, hk⟩
    obtain ⟨o2, s2, A2, n2, p2, rfl⟩ := hx.form
    have HX2 := Lib.hid (hx.kept ((Kept.refl _).alloc (.cells #[.int .i64 o2, .int .u64 (wdN s2 0), .int .u64 (wdN s2 1), .int .u64 (wdN s2 2), .int .u64 (wdN s2 3), .slice A2 n2 p2] 27)))
    replace HX := Lib.hid ((HX.out.kept hk).kept ((Kept.refl _).alloc (.cells #[.int .i64 o2, .int .u64 (wdN s2 0), .int .u64 (wdN s2 1), .int .u64 (wdN s2 2), .int .u64 (wdN s2 3), .slice A2 n2 p2] 27)))
    have hb := hk.blk HB.out
    obtain ⟨⟨x0, x1, x2, x3, x4, x5⟩, -⟩ := box6 hb
    have hbl := blk_lt hb
    replace HK := Lib.hid ((HK.out.trans hk).alloc (.cells #[.int .i64 o2, .int .u64 (wdN s2 0), .int .u64 (wdN s2 1), .int .u64 (wdN s2 2), .int .u64 (wdN s2 3), .slice A2 n2 p2] 27))
    clear hk hx hb HB
    simp only [re6_form]
    go_wp2_with fail
    have HS := Lib.hid (same_any HX.out _ (Kept.refl _) _ _ HX2.out)
    simp only [re6_form] at HS
    refine HS.out.mono ?_
    rintro e w5 ⟨rfl, hk⟩
    replace HK := Lib.hid (HK.out.trans hk)
    clear hk HS HX HX2 x0 x1 x2 x3 x4 x5
    go_wp2_with fail
    refine (num_any _ _).mono ?_
    rintro e w6 ⟨rfl, rfl⟩
    go_wp2_with fail
    go_ret
    exact ⟨rfl, HK.out⟩
end Go.Proofs.Ytpnmcinbohdmhaa
