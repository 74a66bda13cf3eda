/-
  The law DfaRun gives true, whatever reads as an automaton and as bytes. Conditions: the table of math/bits reads as the text lays it.
-/
import Derived.Test.YtccflcakkfjhbaaDoorDfaB
import Derived.Test.YtccflcakkfjhbaaDoorAlvD
set_option linter.unusedSimpArgs false
set_option linter.unusedVariables false
namespace Go.Proofs.YtccflcakkfjhbaaDoor
open Go Go.RowKit Kit
set_option maxRecDepth 100000 in
set_option maxHeartbeats 2000000 in
theorem law_any (vn va : Value) (d : Dfa) (vs : List Value) (vb : Value) (b : List UInt8) (w : World) (h : DfaAt w vn va d vs) (hb : Bs w vb b) (ht : Tab w) : Calls Tryd.prog 3 #[.agg #[vn, va], vb] w fun e w' => e = .returned (.bool true) ∧ Kept w w' := by
  have H := Lib.hid h
  have HT := Lib.hid ht
  have HB := Lib.hid hb
  obtain ⟨An, cn, rfl, hn⟩ := h.next.form
  obtain ⟨Aa, ca, rfl, ha⟩ := Ld.ints h.acc
  obtain ⟨Ab, cb, rfl⟩ := hb.form
  generalize vs.length = n at *
  generalize d.acc.length = a at *
  generalize b.length = l at *
  clear h ht hb hn ha
  go_enter Tryd.func3, Tryd.ntmps3
  go_wp2_with fail
  refine (alive_any _ (HT.out.kept ((Kept.refl _).alloc _))).mono ?_
  rintro e w5 ⟨rfl, hk⟩
  have HK := Lib.hid (((Kept.refl w).alloc _).trans hk)
  have h3 := hk.blk (blk_new w _)
  have B0 := (blk_cell h3 0).trans (show _ = some (Value.slice An n cn) from rfl)
  have B1 := (blk_cell h3 1).trans (show _ = some (Value.slice Aa a ca) from rfl)
  clear h3 hk
  by_cases h1 : (l : Int) > 60
  · go_wp2_with fail
    go_ret
    exact ⟨rfl, HK.out⟩
  · by_cases h2 : (n : Int) > 20
    · go_wp2_with fail
      go_ret
      exact ⟨rfl, HK.out⟩
    · by_cases h4 : (a : Int) > 20
      · go_wp2_with fail
        go_ret
        exact ⟨rfl, HK.out⟩
      · go_wp2_with fail
        refine (run_any _ _ d vs _ b _ (H.out.kept HK.out) (HB.out.keep HK.out)).mono ?_
        rintro e w6 ⟨rfl, hk6⟩
        have HK6 := Lib.hid (HK.out.trans hk6)
        have C0 := hk6.cell B0
        have C1 := hk6.cell B1
        clear hk6 B0 B1
        go_wp2_with fail
        refine (ref_any _ _ d vs _ b _ (H.out.kept HK6.out) (HB.out.keep HK6.out)).mono ?_
        rintro e w7 ⟨rfl, hk7⟩
        have HK7 := Lib.hid (HK6.out.trans hk7)
        clear hk7 C0 C1
        generalize d.one (d.run 0 b) = r
        cases d.is (d.run 0 b)
        · go_wp2_with fail
          go_ret
          exact ⟨rfl, HK7.out⟩
        · go_wp2_with fail
          go_ret
          exact ⟨rfl, HK7.out⟩
end Go.Proofs.YtccflcakkfjhbaaDoor
