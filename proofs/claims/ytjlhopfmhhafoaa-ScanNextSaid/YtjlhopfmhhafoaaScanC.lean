/-
  The longest that fits, by the document. Conditions: the automaton reads as rows and numbers.
-/
import Derived.Test.YtjlhopfmhhafoaaScanB
set_option linter.unusedSimpArgs false
namespace Go.Proofs.Ytjlhopfmhhafoaa
open Go Go.RowKit Kit
theorem cut_any (p : Int) (n : Nat) (w : World) : Calls Try.prog 14 #[.int .i64 p, .int .i64 0, .int .i64 n] w fun e w' => e = .returned (.int .i64 (min (max p 0) n)) ∧ w' = w := by
  by_cases h0 : p < 0
  · have e : min (max p 0) (n : Int) = 0 := by omega
    rw [e]
    go_enter Try.func14, Try.ntmps14
    go_wp2_with fail
    go_ret
    exact ⟨rfl, rfl⟩
  · have h00 : decide (p < 0) = false := by simp; omega
    by_cases h1 : (n : Int) < p
    · have e : min (max p 0) (n : Int) = n := by omega
      rw [e]
      go_enter Try.func14, Try.ntmps14
      go_wp2_with fail
      go_ret
      exact ⟨rfl, rfl⟩
    · have e : min (max p 0) (n : Int) = p := by omega
      have h10 : decide ((n : Int) < p) = false := by simp; omega
      rw [e]
      go_enter Try.func14, Try.ntmps14
      go_wp2_with fail
      go_ret
      exact ⟨rfl, rfl⟩
set_option maxRecDepth 100000 in
set_option maxHeartbeats 2000000 in
theorem rscan_any (vn va : Value) (d : Dfa) (vs : List Value) (vb : Value) (b : List UInt8) (at' : Int) (w : World) (h : DfaAt w vn va d vs) (hb : Bs w vb b) (hb2 : b.length ≤ 1000) : Calls Try.prog 8 #[.agg #[vn, va], vb, .int .i64 at'] w fun e w' => e = .returned (.tuple #[.int .i64 (d.scanAt b at').1, .int .i64 (d.scanAt b at').2.1, .int .i64 (d.scanAt b at').2.2]) ∧ Kept w w' := by
  have H := Lib.hid h
  obtain ⟨An, cn, rfl, hn⟩ := h.next.form
  obtain ⟨Aa, ca, rfl, ha⟩ := Ld.ints h.acc
  obtain ⟨Ab, cb, rfl⟩ := hb.form
  have HB := Lib.hid hb
  have hlen := h.len
  obtain ⟨lo, hlo⟩ : ∃ lo : Nat, min (max at' 0) b.length = (lo : Int) := ⟨(min (max at' 0) b.length).toNat, by omega⟩
  have hR0 : d.scanAt b at' = d.scan 0 0 (-1) 0 (b.drop lo) := by rw [Dfa.scanAt, hlo, Int.toNat_natCast]
  -- where it begins
  obtain ⟨s0, hs0, hs1⟩ : ∃ s0 : Int, s0 = (if d.rows.length = 0 ∨ d.acc.length = 0 then -1 else 0) ∧ d.scan s0 0 (-1) 0 (b.drop lo) = d.scan 0 0 (-1) 0 (b.drop lo) := by
    refine ⟨_, rfl, ?_⟩
    split
    · rename_i hh
      have h0 : d.is 0 = false := by
        cases hh with
        | inl hh => simp [Dfa.is, hh]
        | inr hh => simp [Dfa.is, hh]
      rw [Dfa.scan_no (show d.is (-1) = false by simp [Dfa.is]), Dfa.scan_no h0]
    · rfl
  generalize hR : d.scanAt b at' = R at hR0 ⊢
  have HR0 := Lib.hid (hs1.trans hR0.symm)
  have HLO := Lib.hid hlo
  have hlo2 : lo ≤ b.length := by omega
  have hla : ∀ A n c, Ld w (.slice A n c) (zs d.acc) → n = d.acc.length := by
    rintro A n c ⟨_, _, e, _⟩
    injection e with e1 e2 e3
    rw [e2, zs_len]
  have HS : Hid (DfaAt w (.slice An vs.length cn) (.slice Aa d.acc.length ca) d vs) := H
  generalize hvn : vs.length = n at *
  generalize hva : d.acc.length = a at *
  rw [← hlen] at hs0
  have HB2 := Lib.hid hb2
  have HLO2 := Lib.hid hlo2
  have HVA := Lib.hid hva
  generalize hbn : b.length = bn at *
  have HBN := Lib.hid hbn
  clear h hb hb2 hn ha hR hR0 hlo hs1 hlen hla hvn hva hbn HS
  by_cases hv1 : n = 0
  · subst hv1
    rw [if_pos (Or.inl rfl)] at hs0
    subst hs0
    go_enter Try.func8, Try.ntmps8
    go_wp2_with fail
    refine (cut_any at' bn _).mono ?_
    rintro e w1 ⟨rfl, rfl⟩
    rw [HLO.out]
    go_wp2_with fail
    go_loopw [9, 10, 11, 12] (fun vr vl va vi wr => ∃ (i j m : Nat) (r s : Int), vi = .int .i64 i ∧ va = .int .i64 s ∧ vl = .int .i64 m ∧ vr = .int .i64 r ∧ i = lo + j ∧ i ≤ bn ∧ d.scan s j r m (b.drop i) = R ∧ Kept (w.alloc (.cells #[.slice An 0 cn, .slice Aa a ca] 25)) wr) (fun _ _ _ vi _ => bn - (intOf vi).toNat)
    case atStart => exact ⟨lo, 0, 0, -1, -1, rfl, rfl, rfl, rfl, rfl, HLO2.out, HR0.out, Kept.refl _⟩
    case round =>
      obtain ⟨i, j, m, r, s, rfl, rfl, rfl, rfl, hij, hi2, hr, hkr⟩ := hrel
      have HIJ := Lib.hid hij
      have HI2 := Lib.hid hi2
      have HR := Lib.hid hr
      have HK := Lib.hid hkr
      have h3 := hkr.blk (blk_new w _)
      have B0 := (blk_cell h3 0).trans (show _ = some (Value.slice An 0 cn) from rfl)
      have B1 := (blk_cell h3 1).trans (show _ = some (Value.slice Aa a ca) from rfl)
      have hj0 : (0 : Int) ≤ i := by omega
      have HKw := Lib.hid (((Kept.refl w).alloc _).trans hkr)
      clear hr hkr h3 HR0
      by_cases hlt : i < bn
      · have hlti : (i : Int) < bn := by omega
        have hjb : (i : Int) + 1 ≤ 9223372036854775807 := by have := HB2.out; omega
        have hsub : (i : Int) - lo = j := by omega
        obtain ⟨c, hi⟩ : ∃ c, b[i]? = some c := ⟨_, List.getElem?_eq_getElem (by have := HBN.out; omega)⟩
        obtain ⟨A3, c3, e2, _, _, hat⟩ := HB.out.keep HKw.out
        injection e2 with e3 e4 e5
        subst e3 e5
        clear e4
        obtain ⟨ad, rfl, hci⟩ := hat i c hi
        have hun := HR.out
        rw [drop_at hi, Dfa.scan] at hun
        have hcq := c.toNat_lt
        have hjs : (j : Int) + 1 ≤ 9223372036854775807 := by have := HB2.out; omega
        unfold bv at hci
        clear HR hi hat hij hi2 hlt
        generalize c.toNat = q at *
        go_wp2_with fail
        go_still_tail 6, (by kernel_rfl)
        change wpList _ _ _ _ _ wr.drew
        go_wp2_with fail
        refine (move_any _ _ d vs s q hcq _ ((H.out.kept HKw.out).kept (Kept.refl _).drew)).mono ?_
        rintro e w5 ⟨rfl, hk5⟩
        have hkk := (Kept.refl wr).drew.trans hk5
        have HK5 := Lib.hid (HK.out.trans hkk)
        have HW5 := Lib.hid (HKw.out.trans hkk)
        have C1 := hkk.cell B1
        clear hk5 hci B0 B1 hkk
        cases hs : d.is (d.step s q) with
        | false =>
          have e : d.move s q = -1 := by simp [Dfa.move, hs]
          rw [e]
          rw [hs, if_neg (by simp)] at hun
          have HUN := Lib.hid hun
          clear hun hs e
          go_wp2_with fail
          go_ret3
          refine ⟨?_, HW5.out⟩
          rw [← HUN.out]; rfl
        | true =>
          have e : d.move s q = d.step s q := by simp [Dfa.move, hs]
          rw [e]
          rw [hs, if_pos rfl] at hun
          generalize d.step s q = t at hun hs ⊢
          obtain ⟨k, rfl, hk1, hk2⟩ := is_true hs
          obtain ⟨y, hy⟩ : ∃ y, d.acc[k]? = some y := ⟨_, List.getElem?_eq_getElem hk2⟩
          obtain ⟨ar, rfl, hcz⟩ := (H.out.acc.kept HW5.out).at (zs_get hy)
          have hval : d.val k = y := by simp [Dfa.val, hy]
          rw [hval] at hun
          have g0 : (0 : Int) ≤ k := by omega
          have g2 : decide ((k : Int) < 0) = false := by simp
          have g1 : (k : Int) < a := by have := HVA.out; omega
          clear hval hs hy hk1 hk2 e
          by_cases hy0 : y < 0
          · rw [if_pos hy0] at hun
            have HUN := Lib.hid hun
            have hy1 : decide (0 ≤ y) = false := by simp; omega
            clear hun
            go_wp2_with fail
            go_roundw
            case rel => exact ⟨i + 1, j + 1, m, r, k, by go_num, rfl, rfl, rfl, by have := HIJ.out; omega, by omega, HUN.out, HK5.out⟩
            case measure => simp [intOf]; omega
          · rw [if_neg hy0] at hun
            have HUN := Lib.hid hun
            have hy1 : 0 ≤ y := by omega
            clear hun hy0
            go_wp2_with fail
            go_roundw
            case rel => exact ⟨i + 1, j + 1, j + 1, y, k, by go_num, rfl, by go_num, rfl, by have := HIJ.out; omega, by omega, HUN.out, HK5.out⟩
            case measure => simp [intOf]; omega
      · have hge : ¬ (i : Int) < bn := by omega
        have hE := HR.out
        rw [List.drop_eq_nil_of_le (by have := HBN.out; omega), Dfa.scan] at hE
        have hsub : (bn : Int) - lo = j := by omega
        have hjs : (j : Int) + 1 ≤ 9223372036854775807 := by have := HB2.out; omega
        have HE := Lib.hid hE
        clear HR hE hij hi2
        go_wp2_with fail
        go_ret3
        refine ⟨?_, HKw.out⟩
        rw [← HE.out]; rfl
  · by_cases hv2 : a = 0
    · subst hv2
      rw [if_pos (Or.inr rfl)] at hs0
      subst hs0
      have hv3 : ((n : Int) == 0) = false := by simpa using hv1
      clear hv1
      go_enter Try.func8, Try.ntmps8
      go_wp2_with fail
      refine (cut_any at' bn _).mono ?_
      rintro e w1 ⟨rfl, rfl⟩
      rw [HLO.out]
      go_wp2_with fail
      go_loopw [9, 10, 11, 12] (fun vr vl va vi wr => ∃ (i j m : Nat) (r s : Int), vi = .int .i64 i ∧ va = .int .i64 s ∧ vl = .int .i64 m ∧ vr = .int .i64 r ∧ i = lo + j ∧ i ≤ bn ∧ d.scan s j r m (b.drop i) = R ∧ Kept (w.alloc (.cells #[.slice An n cn, .slice Aa 0 ca] 25)) wr) (fun _ _ _ vi _ => bn - (intOf vi).toNat)
      case atStart => exact ⟨lo, 0, 0, -1, -1, rfl, rfl, rfl, rfl, rfl, HLO2.out, HR0.out, Kept.refl _⟩
      case round =>
        obtain ⟨i, j, m, r, s, rfl, rfl, rfl, rfl, hij, hi2, hr, hkr⟩ := hrel
        have HIJ := Lib.hid hij
        have HI2 := Lib.hid hi2
        have HR := Lib.hid hr
        have HK := Lib.hid hkr
        have h3 := hkr.blk (blk_new w _)
        have B0 := (blk_cell h3 0).trans (show _ = some (Value.slice An n cn) from rfl)
        have B1 := (blk_cell h3 1).trans (show _ = some (Value.slice Aa 0 ca) from rfl)
        have hj0 : (0 : Int) ≤ i := by omega
        have HKw := Lib.hid (((Kept.refl w).alloc _).trans hkr)
        clear hr hkr h3 HR0
        by_cases hlt : i < bn
        · have hlti : (i : Int) < bn := by omega
          have hjb : (i : Int) + 1 ≤ 9223372036854775807 := by have := HB2.out; omega
          have hsub : (i : Int) - lo = j := by omega
          obtain ⟨c, hi⟩ : ∃ c, b[i]? = some c := ⟨_, List.getElem?_eq_getElem (by have := HBN.out; omega)⟩
          obtain ⟨A3, c3, e2, _, _, hat⟩ := HB.out.keep HKw.out
          injection e2 with e3 e4 e5
          subst e3 e5
          clear e4
          obtain ⟨ad, rfl, hci⟩ := hat i c hi
          have hun := HR.out
          rw [drop_at hi, Dfa.scan] at hun
          have hcq := c.toNat_lt
          have hjs : (j : Int) + 1 ≤ 9223372036854775807 := by have := HB2.out; omega
          unfold bv at hci
          clear HR hi hat hij hi2 hlt
          generalize c.toNat = q at *
          go_wp2_with fail
          go_still_tail 6, (by kernel_rfl)
          change wpList _ _ _ _ _ wr.drew
          go_wp2_with fail
          refine (move_any _ _ d vs s q hcq _ ((H.out.kept HKw.out).kept (Kept.refl _).drew)).mono ?_
          rintro e w5 ⟨rfl, hk5⟩
          have hkk := (Kept.refl wr).drew.trans hk5
          have HK5 := Lib.hid (HK.out.trans hkk)
          have HW5 := Lib.hid (HKw.out.trans hkk)
          have C1 := hkk.cell B1
          clear hk5 hci B0 B1 hkk
          cases hs : d.is (d.step s q) with
          | false =>
            have e : d.move s q = -1 := by simp [Dfa.move, hs]
            rw [e]
            rw [hs, if_neg (by simp)] at hun
            have HUN := Lib.hid hun
            clear hun hs e
            go_wp2_with fail
            go_ret3
            refine ⟨?_, HW5.out⟩
            rw [← HUN.out]; rfl
          | true =>
            have e : d.move s q = d.step s q := by simp [Dfa.move, hs]
            rw [e]
            rw [hs, if_pos rfl] at hun
            generalize d.step s q = t at hun hs ⊢
            obtain ⟨k, rfl, hk1, hk2⟩ := is_true hs
            exfalso; have := HVA.out; omega
        · have hge : ¬ (i : Int) < bn := by omega
          have hE := HR.out
          rw [List.drop_eq_nil_of_le (by have := HBN.out; omega), Dfa.scan] at hE
          have hsub : (bn : Int) - lo = j := by omega
          have hjs : (j : Int) + 1 ≤ 9223372036854775807 := by have := HB2.out; omega
          have HE := Lib.hid hE
          clear HR hE hij hi2
          go_wp2_with fail
          go_ret3
          refine ⟨?_, HKw.out⟩
          rw [← HE.out]; rfl
    · rw [if_neg (by simp [hv1, hv2])] at hs0
      subst hs0
      have hv3 : ((n : Int) == 0) = false := by simpa using hv1
      have hv4 : ((a : Int) == 0) = false := by simpa using hv2
      clear hv1 hv2
      go_enter Try.func8, Try.ntmps8
      go_wp2_with fail
      refine (cut_any at' bn _).mono ?_
      rintro e w1 ⟨rfl, rfl⟩
      rw [HLO.out]
      go_wp2_with fail
      go_loopw [9, 10, 11, 12] (fun vr vl va vi wr => ∃ (i j m : Nat) (r s : Int), vi = .int .i64 i ∧ va = .int .i64 s ∧ vl = .int .i64 m ∧ vr = .int .i64 r ∧ i = lo + j ∧ i ≤ bn ∧ d.scan s j r m (b.drop i) = R ∧ Kept (w.alloc (.cells #[.slice An n cn, .slice Aa a ca] 25)) wr) (fun _ _ _ vi _ => bn - (intOf vi).toNat)
      case atStart => exact ⟨lo, 0, 0, -1, 0, rfl, rfl, rfl, rfl, rfl, HLO2.out, HR0.out, Kept.refl _⟩
      case round =>
        obtain ⟨i, j, m, r, s, rfl, rfl, rfl, rfl, hij, hi2, hr, hkr⟩ := hrel
        have HIJ := Lib.hid hij
        have HI2 := Lib.hid hi2
        have HR := Lib.hid hr
        have HK := Lib.hid hkr
        have h3 := hkr.blk (blk_new w _)
        have B0 := (blk_cell h3 0).trans (show _ = some (Value.slice An n cn) from rfl)
        have B1 := (blk_cell h3 1).trans (show _ = some (Value.slice Aa a ca) from rfl)
        have hj0 : (0 : Int) ≤ i := by omega
        have HKw := Lib.hid (((Kept.refl w).alloc _).trans hkr)
        clear hr hkr h3 HR0
        by_cases hlt : i < bn
        · have hlti : (i : Int) < bn := by omega
          have hjb : (i : Int) + 1 ≤ 9223372036854775807 := by have := HB2.out; omega
          have hsub : (i : Int) - lo = j := by omega
          obtain ⟨c, hi⟩ : ∃ c, b[i]? = some c := ⟨_, List.getElem?_eq_getElem (by have := HBN.out; omega)⟩
          obtain ⟨A3, c3, e2, _, _, hat⟩ := HB.out.keep HKw.out
          injection e2 with e3 e4 e5
          subst e3 e5
          clear e4
          obtain ⟨ad, rfl, hci⟩ := hat i c hi
          have hun := HR.out
          rw [drop_at hi, Dfa.scan] at hun
          have hcq := c.toNat_lt
          have hjs : (j : Int) + 1 ≤ 9223372036854775807 := by have := HB2.out; omega
          unfold bv at hci
          clear HR hi hat hij hi2 hlt
          generalize c.toNat = q at *
          go_wp2_with fail
          go_still_tail 6, (by kernel_rfl)
          change wpList _ _ _ _ _ wr.drew
          go_wp2_with fail
          refine (move_any _ _ d vs s q hcq _ ((H.out.kept HKw.out).kept (Kept.refl _).drew)).mono ?_
          rintro e w5 ⟨rfl, hk5⟩
          have hkk := (Kept.refl wr).drew.trans hk5
          have HK5 := Lib.hid (HK.out.trans hkk)
          have HW5 := Lib.hid (HKw.out.trans hkk)
          have C1 := hkk.cell B1
          clear hk5 hci B0 B1 hkk
          cases hs : d.is (d.step s q) with
          | false =>
            have e : d.move s q = -1 := by simp [Dfa.move, hs]
            rw [e]
            rw [hs, if_neg (by simp)] at hun
            have HUN := Lib.hid hun
            clear hun hs e
            go_wp2_with fail
            go_ret3
            refine ⟨?_, HW5.out⟩
            rw [← HUN.out]; rfl
          | true =>
            have e : d.move s q = d.step s q := by simp [Dfa.move, hs]
            rw [e]
            rw [hs, if_pos rfl] at hun
            generalize d.step s q = t at hun hs ⊢
            obtain ⟨k, rfl, hk1, hk2⟩ := is_true hs
            obtain ⟨y, hy⟩ : ∃ y, d.acc[k]? = some y := ⟨_, List.getElem?_eq_getElem hk2⟩
            obtain ⟨ar, rfl, hcz⟩ := (H.out.acc.kept HW5.out).at (zs_get hy)
            have hval : d.val k = y := by simp [Dfa.val, hy]
            rw [hval] at hun
            have g0 : (0 : Int) ≤ k := by omega
            have g2 : decide ((k : Int) < 0) = false := by simp
            have g1 : (k : Int) < a := by have := HVA.out; omega
            clear hval hs hy hk1 hk2 e
            by_cases hy0 : y < 0
            · rw [if_pos hy0] at hun
              have HUN := Lib.hid hun
              have hy1 : decide (0 ≤ y) = false := by simp; omega
              clear hun
              go_wp2_with fail
              go_roundw
              case rel => exact ⟨i + 1, j + 1, m, r, k, by go_num, rfl, rfl, rfl, by have := HIJ.out; omega, by omega, HUN.out, HK5.out⟩
              case measure => simp [intOf]; omega
            · rw [if_neg hy0] at hun
              have HUN := Lib.hid hun
              have hy1 : 0 ≤ y := by omega
              clear hun hy0
              go_wp2_with fail
              go_roundw
              case rel => exact ⟨i + 1, j + 1, j + 1, y, k, by go_num, rfl, by go_num, rfl, by have := HIJ.out; omega, by omega, HUN.out, HK5.out⟩
              case measure => simp [intOf]; omega
        · have hge : ¬ (i : Int) < bn := by omega
          have hE := HR.out
          rw [List.drop_eq_nil_of_le (by have := HBN.out; omega), Dfa.scan] at hE
          have hsub : (bn : Int) - lo = j := by omega
          have hjs : (j : Int) + 1 ≤ 9223372036854775807 := by have := HB2.out; omega
          have HE := Lib.hid hE
          clear HR hE hij hi2
          go_wp2_with fail
          go_ret3
          refine ⟨?_, HKw.out⟩
          rw [← HE.out]; rfl
end Go.Proofs.Ytjlhopfmhhafoaa
