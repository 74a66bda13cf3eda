/-
  What splice.Map does, and the law's own test that the package stands.
-/
import Derived.Test.YtbpgbelfgigogaaDo
namespace Go.Proofs.Ytbpgbelfgigogaa
open Go Go.RowKit Kit
/-- Where a place is behind a splice: from f on d bytes go, k come. -/
def mapI (f d k p : Int) : Int := if p ≤ f then p else if p < f + d then f else wrap64 (p - d + k)
theorem map_any (n at' del x : Int) (v : Value) (l : List UInt8) (w : World) (hn : -9223372036854775808 ≤ n) (hn' : n ≤ 9223372036854775807) (hv : Bs w v l) :
    Calls Try.prog 13 #[.int .i64 n, .agg #[.int .i64 at', .int .i64 del, v], .int .i64 x] w fun e w' => e = .returned (.int .i64 (mapI (cutI at' n) (cutI del (n - cutI at' n)) l.length (cutI x n))) ∧ Kept w w' := by
  obtain ⟨A1, c1, rfl⟩ := hv.form
  clear hv
  have HR := fun w' : World => Lib.hid (reach_any n at' del (.slice A1 l.length c1) w' hn hn')
  have HX := fun w' : World => Lib.hid (cut_any x n w')
  have hb1 : 0 ≤ cutI at' n ∧ 0 ≤ cutI del (n - cutI at' n) ∧ 0 ≤ cutI x n ∧ cutI at' n + cutI del (n - cutI at' n) ≤ 9223372036854775807 ∧ cutI x n ≤ 9223372036854775807 ∧ cutI del (n - cutI at' n) ≤ 9223372036854775807 := by unfold cutI; omega
  generalize cutI at' n = f at *
  generalize cutI del (n - f) = d at *
  generalize cutI x n = p at *
  obtain ⟨b1, b2, b3, b4, b5, b6⟩ := hb1
  have hfin : ∀ y, y = mapI f d l.length p → Ending.returned (Value.int .i64 y) = .returned (.int .i64 (mapI f d l.length p)) := fun y h => by rw [h]
  have HF := Lib.hid hfin
  clear hfin
  by_cases h1 : p ≤ f <;> by_cases h2 : p < f + d
  all_goals
    go_enter Try.func13, Try.ntmps13
    go_wp2_with fail
    refine (HR _).out.mono ?_
    rintro e w1 ⟨rfl, hk1⟩
    obtain ⟨⟨hq0, hq1, hc2⟩, hq2⟩ := box3 (Kept.blk hk1 (blk_new w _))
    clear hq0 hq1 hq2
    go_wp2_with fail
    refine (HX _).out.mono ?_
    rintro e w2 ⟨rfl, rfl⟩
    go_wp2_with fail
    go_ret
    refine ⟨HF.out _ ?_, ((Kept.refl _).alloc _).trans hk1⟩
    unfold mapI
    first | rw [if_pos (by omega)] | (rw [if_neg (by omega)]; first | rw [if_pos (by omega)] | rw [if_neg (by omega)])
theorem conv_lit (w : World) (C : Array Value) (n c : Nat) : (convert 22 22 (.slice (some ⟨w.heap.size, 0, none⟩) n c)).run Try.prog (w.alloc (.cells C 5)) = .ok (.slice (some ⟨w.heap.size, 0, none⟩) n c) (w.alloc (.cells C 5 (C.size, C.size + 1))) :=
  Lib.run_convert_bytes_const w 22 5 C n c Try.underlying22 Try.underlying5
theorem conv_lit2 (w : World) (o : Obj) (C : Array Value) (n c : Nat) : (convert 22 22 (.slice (some ⟨w.heap.size + 1, 0, none⟩) n c)).run Try.prog ((w.alloc o).alloc (.cells C 5)) = .ok (.slice (some ⟨w.heap.size + 1, 0, none⟩) n c) ((w.alloc o).alloc (.cells C 5 (C.size, C.size + 1))) := by
  have := conv_lit (w.alloc o) C n c
  rw [World.size_alloc] at this
  exact this
theorem alive_any (w : World) : Calls Try.prog 7 #[] w fun e w' => e = .returned (.bool true) ∧ Kept w w' := by
  have hcv := conv_lit
  have hcv2 := conv_lit2
  go_enter Try.func7, Try.ntmps7
  go_wp2_with fail
  generalize hA : w.alloc _ = wa
  generalize hB : wa.alloc _ = wb
  have h1 : Bs wb (.slice (some ⟨w.heap.size, 0, none⟩) 3 3) [97, 98, 99] := by
    subst hB; subst hA
    exact Bs.lit (l := [97, 98, 99]) (blk_old _ _ (blk_new w _)) (by rfl) (by decide)
  have h2 : Bs wb (.slice (some ⟨w.heap.size + 1, 0, none⟩) 1 1) [120] := by
    subst hB; subst hA
    have h := blk_new (w.alloc (.cells #[.int .u8 97, .int .u8 98, .int .u8 99] 5 (3, 4))) (.cells #[.int .u8 120] 5 (1, 2))
    rw [World.size_alloc] at h
    exact Bs.lit (l := [120]) h (by rfl) (by decide)
  have hk0 : Kept w wb := by subst hB; subst hA; exact ((Kept.refl _).alloc _).alloc _
  clear hA hB
  refine (do_any _ _ _ _ _ _ [97, 98, 99] [120] _ h1 h2 (by decide) (by decide)).mono ?_
  rintro e w1 ⟨v', rfl, hb, hk⟩
  have hb' : Bs w1 v' [97, 120, 99] := hb
  have hs := hb'.str (P := Try.prog) 22 9 5 Try.underlying22 Try.underlying5 Try.underlying9
  clear hb h1 h2
  go_wp2_with fail
  have h3 : Bs (w1.alloc (.cells #[.int .u8 120, .int .u8 121] 5 (2, 3))) (.slice (some ⟨w1.heap.size, 0, none⟩) 2 2) [120, 121] := Bs.lit (l := [120, 121]) (blk_new w1 _) (by rfl) (by decide)
  refine (map_any 3 1 0 2 _ [120, 121] _ (by decide) (by decide) h3).mono ?_
  rintro e w2 ⟨rfl, hk2⟩
  rw [show mapI (cutI 1 3) (cutI 0 (3 - cutI 1 3)) (([120, 121] : List UInt8).length) (cutI 2 3) = 4 from by decide +kernel]
  clear h3 hs hb'
  go_wp2_with fail
  go_ret
  exact ⟨rfl, hk0.trans (hk.trans (((Kept.refl _).alloc _).trans hk2))⟩
end Go.Proofs.Ytbpgbelfgigogaa
