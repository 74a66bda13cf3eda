/-
  Where an automaton is behind some bytes, in the program and in the document. Conditions: the automaton reads as rows and numbers.
-/
import Derived.Test.YtccflcakkfjhbaaDoorDfaA
import Derived.StillTailTactics
set_option linter.unusedSimpArgs false
set_option linter.unusedVariables false
namespace Go.Proofs.YtccflcakkfjhbaaDoor
open Go Go.RowKit Kit
theorem step_no {d : Dfa} {i : Int} (h : d.is i = false) (q : Nat) : d.is (d.step i q) = false := by
  rw [Dfa.step, h]; simp [Dfa.is]
theorem run_no {d : Dfa} : ∀ (l : List UInt8) {i : Int}, d.is i = false → d.is (d.run i l) = false
  | [], i, h => h
  | c :: l, i, h => run_no l (step_no h _)
theorem drop_at {α : Type} {l : List α} {j : Nat} {x : α} (h : l[j]? = some x) : l.drop j = x :: l.drop (j + 1) := by
  obtain ⟨h1, h2⟩ := List.getElem?_eq_some_iff.1 h
  rw [← h2, List.drop_eq_getElem_cons h1]
set_option maxRecDepth 100000 in
set_option maxHeartbeats 2000000 in
theorem run_any (vn va : Value) (d : Dfa) (vs : List Value) (vb : Value) (b : List UInt8) (w : World) (h : DfaAt w vn va d vs) (hb : Bs w vb b) : Calls Tryd.prog 6 #[.agg #[vn, va], vb] w fun e w' => e = .returned (.tuple #[.int .i64 (d.one (d.run 0 b)), .bool (d.is (d.run 0 b))]) ∧ Kept w w' := by
  have H := Lib.hid h
  obtain ⟨An, cn, rfl, hn⟩ := h.next.form
  obtain ⟨Aa, ca, rfl, ha⟩ := Ld.ints h.acc
  obtain ⟨Ab, cb, rfl⟩ := hb.form
  have hbl := hb.len
  have hbm : b.length ≤ 9223372036854775807 := by have := hbl.2.1; have := hbl.2.2; unfold maxLen at this; omega
  have HB := Lib.hid hb
  generalize hR : d.run 0 b = R
  have HR0 := Lib.hid hR
  clear h hb hbl hn ha hR
  go_enter Tryd.func6, Tryd.ntmps6
  go_wp2_with fail
  go_loopw [6, 11] (fun va vi wr => ∃ (j : Nat) (i : Int), vi = .int .i64 j ∧ va = .int .i64 i ∧ j ≤ b.length ∧ d.run i (b.drop j) = R ∧ Kept (w.alloc (.cells #[.slice An vs.length cn, .slice Aa d.acc.length ca] 25)) wr) (fun _ vi _ => b.length - (intOf vi).toNat)
  case atStart => exact ⟨0, 0, rfl, rfl, Nat.zero_le _, HR0.out, Kept.refl _⟩
  case round =>
    obtain ⟨j, i, rfl, rfl, hj, hr, hkr⟩ := hrel
    have HR := Lib.hid hr
    have HK := Lib.hid hkr
    have h3 := hkr.blk (blk_new w _)
    have B0 := (blk_cell h3 0).trans (show _ = some (Value.slice An vs.length cn) from rfl)
    have B1 := (blk_cell h3 1).trans (show _ = some (Value.slice Aa d.acc.length ca) from rfl)
    have hj0 : (0 : Int) ≤ j := by omega
    have HKw := Lib.hid (((Kept.refl w).alloc _).trans hkr)
    clear hr hkr h3 HR0
    by_cases hlt : j < b.length
    · have hlti : (j : Int) < b.length := by omega
      have hjb : (j : Int) + 1 ≤ 9223372036854775807 := by omega
      obtain ⟨c, hi⟩ : ∃ c, b[j]? = some c := ⟨_, List.getElem?_eq_getElem hlt⟩
      obtain ⟨A2, c2, e2, _, _, hat⟩ := HB.out.keep HKw.out
      injection e2 with e3 e4 e5
      subst e3 e5
      obtain ⟨ad, rfl, hci⟩ := hat j c hi
      have hun := HR.out
      rw [drop_at hi] at hun
      have HUN : Hid (d.run (d.step i c.toNat) (b.drop (j + 1)) = R) := Lib.hid hun
      clear hun HR hi hat
      have hcq := c.toNat_lt
      unfold bv at hci
      generalize c.toNat = q at *
      go_wp2_with fail
      refine (step_any _ _ d vs i q hcq _ (H.out.kept HKw.out)).mono ?_
      rintro e w5 ⟨rfl, hk5⟩
      have HK5 := Lib.hid (HK.out.trans hk5)
      clear hk5 hci B0 B1
      go_wp2_with fail
      go_roundw
      case rel => exact ⟨j + 1, _, by go_num, rfl, by omega, HUN.out, HK5.out⟩
      case measure => simp [intOf]; omega
    · have hge : ¬ (j : Int) < b.length := by omega
      have hE : i = R := by
        have := HR.out
        rw [List.drop_eq_nil_of_le (by omega)] at this
        exact this
      subst hE
      clear HR
      go_wp2_with fail
      refine (isState_any _ _ d vs i _ (H.out.kept HKw.out)).mono ?_
      rintro e w5 ⟨rfl, hk5⟩
      have HK5 := Lib.hid (HKw.out.trans hk5)
      have B1' := hk5.cell B1
      clear B0 B1
      cases hs : d.is i with
      | false =>
        have e := Lib.hid (show d.one i = -1 by simp [Dfa.one, hs])
        have hs2 := Lib.hid hs
        clear hk5 hs
        go_wp2_with fail
        go_ret2
        exact ⟨by rw [e.out, hs2.out]; rfl, HK5.out⟩
      | true =>
        obtain ⟨k, rfl, hk1, hk2⟩ := is_true hs
        obtain ⟨z, hz⟩ : ∃ z, d.acc[k]? = some z := ⟨_, List.getElem?_eq_getElem hk2⟩
        obtain ⟨ar, rfl, hcz⟩ := (H.out.acc.kept HK5.out).at (zs_get hz)
        have e : d.one k = if z < 0 then -1 else z := by simp [Dfa.one, Dfa.val, hs, hz]
        have g0 : (0 : Int) ≤ k := by omega
        have g1 : (k : Int) < d.acc.length := by omega
        have E := Lib.hid e
        have hs2 := Lib.hid hs
        clear e hk5 hs hz hk1 hk2
        go_wp2_with fail
        all_goals
          go_ret2
          refine ⟨?_, HK5.out⟩
          rw [E.out, hs2.out]
          split
          · first
              | rfl
              | (have hz1 : z = -1 := by omega
                 subst hz1
                 rfl)
          · first
              | rfl
              | (exfalso; omega)
set_option maxRecDepth 100000 in
set_option maxHeartbeats 2000000 in
theorem ref_any (vn va : Value) (d : Dfa) (vs : List Value) (vb : Value) (b : List UInt8) (w : World) (h : DfaAt w vn va d vs) (hb : Bs w vb b) : Calls Tryd.prog 7 #[.agg #[vn, va], vb] w fun e w' => e = .returned (.tuple #[.int .i64 (d.one (d.run 0 b)), .bool (d.is (d.run 0 b))]) ∧ Kept w w' := by
  have H := Lib.hid h
  obtain ⟨An, cn, rfl, hn⟩ := h.next.form
  obtain ⟨Aa, ca, rfl, ha⟩ := Ld.ints h.acc
  obtain ⟨Ab, cb, rfl⟩ := hb.form
  have hbl := hb.len
  have hbm : b.length ≤ 9223372036854775807 := by have := hbl.2.1; have := hbl.2.2; unfold maxLen at this; omega
  have HB := Lib.hid hb
  have hlen := h.len
  by_cases hne : d.is 0 = true
  · have hne2 := hne
    simp only [Dfa.is, Bool.and_eq_true, decide_eq_true_eq, ← hlen] at hne2
    have hv1 : ((vs.length : Int) == 0) = false := by simp; rintro rfl; simp at hne2
    have hv2 : ((d.acc.length : Int) == 0) = false := by simp; intro e; rw [e] at hne2; simp at hne2
    generalize vs.length = n at *
    generalize d.acc.length = a at *
    generalize hR : d.run 0 b = R
    have HR0 := Lib.hid hR
    have HNE := Lib.hid hne
    clear h hb hbl hn ha hR hne hne2 hlen
    go_enter Tryd.func7, Tryd.ntmps7
    go_wp2_with fail
    go_loopw [6, 7] (fun va vi wr => ∃ (j : Nat) (i : Int), vi = .int .i64 j ∧ va = .int .i64 i ∧ j ≤ b.length ∧ d.run i (b.drop j) = R ∧ d.is i = true ∧ Kept (w.alloc (.cells #[.slice An n cn, .slice Aa a ca] 25)) wr) (fun _ vi _ => b.length - (intOf vi).toNat)
    case atStart => exact ⟨0, 0, rfl, rfl, Nat.zero_le _, HR0.out, HNE.out, Kept.refl _⟩
    case round =>
      obtain ⟨j, i, rfl, rfl, hj, hr, hsi, hkr⟩ := hrel
      have HR := Lib.hid hr
      have HS := Lib.hid hsi
      have HK := Lib.hid hkr
      have h3 := hkr.blk (blk_new w _)
      have B0 := (blk_cell h3 0).trans (show _ = some (Value.slice An n cn) from rfl)
      have B1 := (blk_cell h3 1).trans (show _ = some (Value.slice Aa a ca) from rfl)
      have hj0 : (0 : Int) ≤ j := by omega
      have HKw := Lib.hid (((Kept.refl w).alloc _).trans hkr)
      clear hr hkr h3 HR0 hsi
      by_cases hlt : j < b.length
      · have hlti : (j : Int) < b.length := by omega
        have hjb : (j : Int) + 1 ≤ 9223372036854775807 := by omega
        obtain ⟨c, hi⟩ : ∃ c, b[j]? = some c := ⟨_, List.getElem?_eq_getElem hlt⟩
        obtain ⟨A2, c2, e2, _, _, hat⟩ := HB.out.keep HKw.out
        injection e2 with e3 e4 e5
        subst e3 e5
        obtain ⟨ad, rfl, hci⟩ := hat j c hi
        have hun := HR.out
        rw [drop_at hi] at hun
        have HUN : Hid (d.run (d.step i c.toNat) (b.drop (j + 1)) = R) := Lib.hid hun
        clear hun HR hi hat
        have hcq := c.toNat_lt
        unfold bv at hci
        generalize c.toNat = q at *
        go_wp2_with fail
        go_still_tail 6, (by kernel_rfl)
        change wpList _ _ _ _ _ wr.drew
        go_wp2_with fail
        refine (move_any _ _ d vs i q hcq _ ((H.out.kept HKw.out).kept (Kept.refl _).drew)).mono ?_
        rintro e w5 ⟨rfl, hk5⟩
        have HK5 := Lib.hid (HK.out.trans ((Kept.refl wr).drew.trans hk5))
        have HW5 := Lib.hid (HKw.out.trans ((Kept.refl wr).drew.trans hk5))
        clear hk5 hci B0 B1
        cases hs : d.is (d.step i q) with
        | false =>
          have e : d.move i q = -1 := by simp [Dfa.move, hs]
          rw [e]
          have hR2 := run_no (b.drop (j + 1)) hs
          rw [HUN.out] at hR2
          have e1 := Lib.hid (show d.one R = -1 by simp [Dfa.one, hR2])
          have hs2 := Lib.hid hR2
          clear e hs hR2
          go_wp2_with fail
          go_ret2
          refine ⟨?_, HW5.out⟩
          rw [e1.out, hs2.out]
          rfl
        | true =>
          have e : d.move i q = d.step i q := by simp [Dfa.move, hs]
          rw [e]
          obtain ⟨k, hk0⟩ : ∃ k : Nat, d.step i q = k := let ⟨k, hk, _⟩ := is_true hs; ⟨k, hk⟩
          have hs2 := Lib.hid hs
          have hun := HUN.out
          rw [hk0] at hun hs
          have HUN2 := Lib.hid hun
          have HS2 := Lib.hid hs
          rw [hk0]
          have g0 : decide ((k : Int) < 0) = false := by simp
          clear e hs hun hs2 HUN hk0
          go_wp2_with fail
          go_roundw
          case rel => exact ⟨j + 1, k, by go_num, rfl, by omega, HUN2.out, HS2.out, HK5.out⟩
          case measure => simp [intOf]; omega
      · have hge : ¬ (j : Int) < b.length := by omega
        have hE : i = R := by
          have := HR.out
          rw [List.drop_eq_nil_of_le (by omega)] at this
          exact this
        subst hE
        have hs := HS.out
        obtain ⟨k, rfl, hk1, hk2⟩ := is_true hs
        obtain ⟨z, hz⟩ : ∃ z, d.acc[k]? = some z := ⟨_, List.getElem?_eq_getElem hk2⟩
        obtain ⟨ar, rfl, hcz⟩ := (H.out.acc.kept HKw.out).at (zs_get hz)
        have hla : a = d.acc.length := by
          obtain ⟨_, _, e, _⟩ := H.out.acc
          injection e with e1 e2 e3
          rw [e2, zs_len]
        have e : d.one k = if z < 0 then -1 else z := by simp [Dfa.one, Dfa.val, hs, hz]
        have E := Lib.hid e
        have hs2 := Lib.hid hs
        have g0 : (0 : Int) ≤ k := by omega
        have g1 : (k : Int) < a := by omega
        clear e hs hz hk1 hk2 HR HS hla
        by_cases hz0 : z < 0
        · go_wp2_with fail
          go_ret2
          refine ⟨?_, HKw.out⟩
          rw [E.out, hs2.out, if_pos hz0]
          rfl
        · go_wp2_with fail
          go_ret2
          refine ⟨?_, HKw.out⟩
          rw [E.out, hs2.out, if_neg (by omega)]
          rfl
  · have hn0 : d.is 0 = false := by simpa using hne
    have hR2 := run_no b hn0
    have e1 := Lib.hid (show d.one (d.run 0 b) = -1 by simp [Dfa.one, hR2])
    have hs2 := Lib.hid hR2
    by_cases hv1 : vs.length = 0
    · rw [hv1] at H ⊢
      generalize d.acc.length = a at *
      clear h hb hbl hn ha hne hlen hn0 hR2 hv1
      go_enter Tryd.func7, Tryd.ntmps7
      go_wp2_with fail
      go_ret2
      refine ⟨?_, (Kept.refl _).alloc _⟩
      rw [e1.out, hs2.out]
      rfl
    · have hv2 : d.acc.length = 0 := by
        by_cases hh : d.acc.length = 0
        · exact hh
        · exfalso
          have : d.is 0 = true := by simp only [Dfa.is, Bool.and_eq_true, decide_eq_true_eq]; omega
          rw [this] at hn0
          cases hn0
      have hv3 : ((vs.length : Int) == 0) = false := by simpa using hv1
      rw [hv2] at H ⊢
      generalize vs.length = n at *
      clear h hb hbl hn ha hne hlen hn0 hR2 hv2 hv1
      go_enter Tryd.func7, Tryd.ntmps7
      go_wp2_with fail
      go_ret2
      refine ⟨?_, (Kept.refl _).alloc _⟩
      rw [e1.out, hs2.out]
      rfl
end Go.Proofs.YtccflcakkfjhbaaDoor
