/-
  For every two bytes the law RegexRanges returns true. Conditions: none.
-/
import Derived.Test.YtpnmcinbohdmhaaAlive
set_option linter.unusedSimpArgs false
namespace Go.Proofs.Ytpnmcinbohdmhaa
open Go Go.RowKit Kit
theorem parse_set {s : ByteArray} (hs : 0 < s.size ∧ s.size ≤ 200) (h0 : byteAt s 0 = some 91) :
    (∀ e j, classP s 0 = .err e j → parseP s = (zeroRe, j, e)) ∧ (∀ x, classP s 0 = .ok x s.size → parseP s = (x, s.size, 0)) := by
  have hat : ∀ g : Nat → Res Re, atomP g s 0 = classP s 0 := fun g => by
    unfold atomP
    rw [h0]
    rfl
  have hon : goesOn s 0 = true := by unfold goesOn; rw [h0]; simp [hs.1]
  have hoff : goesOn s s.size = false := by unfold goesOn; simp
  have hend : byteAt s s.size = none := byteAt_none (Nat.lt_irrefl _)
  have hlong : ¬ 200 < s.size := by omega
  refine ⟨fun e j h => ?_, fun x h => ?_⟩
  · unfold parseP
    rw [if_neg hlong, altL_eq, seqL_on hon]
    unfold repP
    rw [hat, h]
  · unfold parseP
    rw [if_neg hlong, altL_eq, seqL_on hon]
    unfold repP
    rw [hat, h]
    simp only [repL_out hend]
    rw [dif_pos hs.1, seqL_off hoff]
    simp only [hend]
    simp [gather]
def rngT (n : Bool) (a b : UInt8) : ByteArray := ⟨if n then #[91, 94, 92, a, 45, 92, b, 93] else #[91, 92, a, 45, 92, b, 93]⟩
theorem rng_false (a b : UInt8) : parseP (rngT false a b) = if b < a then (zeroRe, 4, 2) else (.mk 1 (putR 0#256 a b) [], 7, 0) := by
  have b0 : byteAt (rngT false a b) 0 = some 91 := rfl
  have b1 : byteAt (rngT false a b) 1 = some 92 := rfl
  have b2 : byteAt (rngT false a b) 2 = some a := rfl
  have b3 : byteAt (rngT false a b) 3 = some 45 := rfl
  have b4 : byteAt (rngT false a b) 4 = some 92 := rfl
  have b5 : byteAt (rngT false a b) 5 = some b := rfl
  have b6 : byteAt (rngT false a b) 6 = some 93 := rfl
  have hz : (rngT false a b).size = 7 := rfl
  have l1 : litP (rngT false a b) 1 = .ok a 3 := by unfold litP litB; rw [b1]; simp [b2]
  have l4 : litP (rngT false a b) 4 = .ok b 6 := by unfold litP litB; rw [b4]; simp [b5]
  have hb : betw (rngT false a b) 3 = true := by unfold betw; rw [b3, b4, hz]; rfl
  have hi : itemP (rngT false a b) 1 = if b < a then .err 2 4 else .ok (a, b) 6 := by unfold itemP; rw [l1]; simp only [hb, if_true, l4]
  have hn : notAt (rngT false a b) 0 = false := by unfold notAt; rw [b1]; rfl
  have hcb : classB (rngT false a b) 0 = 1 := by unfold classB; rw [hn]; rfl
  obtain ⟨p1, p2⟩ := parse_set (s := rngT false a b) (by rw [hz]; omega) b0
  by_cases hab : b < a
  · rw [if_pos hab] at hi ⊢
    refine p1 2 4 ?_
    unfold classP
    rw [hcb, b1, classL, b1, hi]
    simp
  · rw [if_neg hab] at hi ⊢
    refine p2 _ ?_
    unfold classP
    rw [hcb, b1, classL, b1, hi, hn]
    simp only [hz]
    rw [classL, b6]
    simp
theorem rng_true (a b : UInt8) : parseP (rngT true a b) = if b < a then (zeroRe, 5, 2) else (.mk 1 (~~~ (putR 0#256 a b)) [], 8, 0) := by
  have b0 : byteAt (rngT true a b) 0 = some 91 := rfl
  have b1 : byteAt (rngT true a b) 1 = some 94 := rfl
  have b2 : byteAt (rngT true a b) 2 = some 92 := rfl
  have b3 : byteAt (rngT true a b) 3 = some a := rfl
  have b4 : byteAt (rngT true a b) 4 = some 45 := rfl
  have b5 : byteAt (rngT true a b) 5 = some 92 := rfl
  have b6 : byteAt (rngT true a b) 6 = some b := rfl
  have b7 : byteAt (rngT true a b) 7 = some 93 := rfl
  have hz : (rngT true a b).size = 8 := rfl
  have l1 : litP (rngT true a b) 2 = .ok a 4 := by unfold litP litB; rw [b2]; simp [b3]
  have l4 : litP (rngT true a b) 5 = .ok b 7 := by unfold litP litB; rw [b5]; simp [b6]
  have hb : betw (rngT true a b) 4 = true := by unfold betw; rw [b4, b5, hz]; rfl
  have hi : itemP (rngT true a b) 2 = if b < a then .err 2 5 else .ok (a, b) 7 := by unfold itemP; rw [l1]; simp only [hb, if_true, l4]
  have hn : notAt (rngT true a b) 0 = true := by unfold notAt; rw [b1]; rfl
  have hcb : classB (rngT true a b) 0 = 2 := by unfold classB; rw [hn]; rfl
  obtain ⟨p1, p2⟩ := parse_set (s := rngT true a b) (by rw [hz]; omega) b0
  by_cases hab : b < a
  · rw [if_pos hab] at hi ⊢
    refine p1 2 5 ?_
    unfold classP
    rw [hcb, b2, classL, b2, hi]
    simp
  · rw [if_neg hab] at hi ⊢
    refine p2 _ ?_
    unfold classP
    rw [hcb, b2, classL, b2, hi, hn]
    simp only [hz]
    rw [classL, b7]
    simp
theorem conv_one (w : World) (c : UInt8) : (convert 41 9 (.slice (some ⟨w.heap.size, 0, none⟩) 1 1)).run Try.prog (w.alloc (.cells #[.int .u8 c.toNat] 5)) = .ok (.string ⟨#[c]⟩) (w.alloc (.cells #[.int .u8 c.toNat] 5)) := by
  have h : Bs (w.alloc (.cells #[.int .u8 c.toNat] 5)) (.slice (some ⟨w.heap.size, 0, none⟩) 1 1) [c] := Bs.lit (l := [c]) (blk_new w _) (by rfl) (by show 1 ≤ maxLen; decide)
  exact h.str 41 9 5 (by kernel_rfl) (by kernel_rfl) (by kernel_rfl)
set_option maxRecDepth 100000 in
set_option maxHeartbeats 4000000 in
theorem lawRanges_false (a b : UInt8) (w : World) : Calls Try.prog 8 #[.int .u8 a.toNat, .int .u8 b.toNat, .bool false] w fun e w' => e = .returned (.bool true) ∧ Kept w w' := by
  have ha : a.toNat ≤ 255 := by have := a.toNat_lt; omega
  have hb : b.toNat ≤ 255 := by have := b.toNat_lt; omega
  go_enter Try.func8, Try.ntmps8
  go_wp2_with fail
  refine (alive_any w).mono ?_
  rintro e w1 ⟨rfl, hk⟩
  have HK := Lib.hid hk
  clear hk
  have cv1 := conv_one w1 a
  have cv2 := conv_one (w1.alloc (.cells #[.int .u8 a.toNat] 5)) b
  rw [World.size_alloc] at cv2
  go_wp2_with fail
  rw [show ({ data := #[91] } ++ { data := #[92] } ++ { data := #[a] } ++ { data := #[45, 92] } ++ { data := #[b] } ++ { data := #[93] } : ByteArray) = rngT false a b from rfl]
  have hk2 : Kept w ((w1.alloc (.cells #[.int .u8 a.toNat] 5)).alloc (.cells #[.int .u8 b.toNat] 5)) := (HK.out.alloc _).alloc _
  clear cv1 cv2
  generalize (w1.alloc _).alloc _ = w2 at hk2 ⊢
  refine (Parse_any _ w2).mono ?_
  rw [rng_false]
  rintro e w3 ⟨u, rfl, hx, hk3⟩
  replace HK := Lib.hid (hk2.trans hk3)
  clear hk2 hk3
  by_cases hab : b < a
  · rw [if_pos hab] at hx ⊢
    obtain ⟨A, m, p, rfl⟩ := hx.inv
    have hlt : (b.toNat : Int) < a.toNat := by have := UInt8.lt_iff_toNat_lt.1 hab; omega
    clear hx hab
    simp only [re6_form]
    go_wp2_with ((go_at_call 13; refine (num_any _ _).mono ?_; rintro _ _ ⟨rfl, rfl⟩))
    go_ret
    exact ⟨rfl, HK.out.alloc _⟩
  · rw [if_neg hab] at hx ⊢
    obtain ⟨A, m, p, rfl⟩ := hx.inv
    have hlt : ¬ (b.toNat : Int) < a.toNat := fun h => hab (UInt8.lt_iff_toNat_lt.2 (by omega))
    have hbits : ∀ k : Nat, k ≤ 255 → (Re.set (.mk 1 (putR 0#256 a b) [])).getLsbD k = (decide (a.toNat ≤ k ∧ k ≤ b.toNat)) := fun k hk => by
      show (putR 0#256 a b).getLsbD k = _
      rw [putR_bit]
      rw [BitVec.getLsbD_zero, Bool.false_or]
    have HX := Lib.hid hbits
    generalize Re.set (.mk 1 (putR 0#256 a b) []) = X at HX ⊢
    clear hx hab hbits
    simp only [re6_form]
    go_wp2_with ((go_at_call 13; refine (num_any _ _).mono ?_; rintro _ _ ⟨rfl, rfl⟩))
    have HA := Lib.hid (alloc1 w3 (.cells #[.int .i64 (1 : Nat), .int .u64 (wdN X 0), .int .u64 (wdN X 1), .int .u64 (wdN X 2), .int .u64 (wdN X 3), .slice A m p] 27))
    go_loopw [12, 13] (fun i _ wr => ∃ k : Nat, i = .int .i64 k ∧ k ≤ 256 ∧ wr.heap[w3.heap.size]? = some (.cells #[.int .i64 (1 : Nat), .int .u64 (wdN X 0), .int .u64 (wdN X 1), .int .u64 (wdN X 2), .int .u64 (wdN X 3), .slice A m p] 27 (0, 0)) ∧ Kept w wr) (fun i _ _ => 256 - (intOf i).toNat)
    case atStart => exact ⟨0, rfl, by omega, HA.out.1, HK.out.trans HA.out.2⟩
    case round =>
      clear HK HA
      obtain ⟨k, rfl, hk, hb3, hkw⟩ := hrel
      have H := Lib.hid (And.intro hb3 hkw)
      obtain ⟨⟨x0, x1, x2, x3, x4, x5⟩, -⟩ := box6 hb3
      clear hb3 hkw
      by_cases hlt2 : k ≤ 255
      · have hbit := HX.out k hlt2
        by_cases h1 : k < a.toNat
        · have i1 : (k : Int) < a.toNat := by omega
          have e : decide (a.toNat ≤ k ∧ k ≤ b.toNat) = false := by simp; omega
          rw [e] at hbit
          have HB := Lib.hid hbit
          clear hbit e
          go_wp2_with fail
          refine (has4 X k hlt2 wr).mono ?_
          rintro e w5 ⟨rfl, hk5⟩
          rw [HB.out]
          replace H := Lib.hid (And.intro (hk5.blk H.out.1) (H.out.2.trans hk5))
          clear hk5 x0 x1 x2 x3 x4 x5
          go_wp2_with fail
          go_roundw
          case rel => exact ⟨k + 1, by go_num, by omega, H.out⟩
          case measure => simp [intOf]; omega
        by_cases h2 : k ≤ b.toNat
        · have i1 : ¬ (k : Int) < a.toNat := by omega
          have i2 : (k : Int) ≤ b.toNat := by omega
          have e : decide (a.toNat ≤ k ∧ k ≤ b.toNat) = true := by simp; omega
          rw [e] at hbit
          have HB := Lib.hid hbit
          clear hbit e
          go_wp2_with fail
          refine (has4 X k hlt2 wr).mono ?_
          rintro e w5 ⟨rfl, hk5⟩
          rw [HB.out]
          replace H := Lib.hid (And.intro (hk5.blk H.out.1) (H.out.2.trans hk5))
          clear hk5 x0 x1 x2 x3 x4 x5
          go_wp2_with fail
          go_roundw
          case rel => exact ⟨k + 1, by go_num, by omega, H.out⟩
          case measure => simp [intOf]; omega
        · have i1 : ¬ (k : Int) < a.toNat := by omega
          have i2 : ¬ (k : Int) ≤ b.toNat := by omega
          have e : decide (a.toNat ≤ k ∧ k ≤ b.toNat) = false := by simp; omega
          rw [e] at hbit
          have HB := Lib.hid hbit
          clear hbit e
          go_wp2_with fail
          refine (has4 X k hlt2 wr).mono ?_
          rintro e w5 ⟨rfl, hk5⟩
          rw [HB.out]
          replace H := Lib.hid (And.intro (hk5.blk H.out.1) (H.out.2.trans hk5))
          clear hk5 x0 x1 x2 x3 x4 x5
          go_wp2_with fail
          go_roundw
          case rel => exact ⟨k + 1, by go_num, by omega, H.out⟩
          case measure => simp [intOf]; omega
      · have hk6 : k = 256 := by omega
        subst hk6
        go_wp2_with fail
        go_ret
        exact ⟨rfl, H.out.2⟩
set_option maxRecDepth 100000 in
set_option maxHeartbeats 4000000 in
theorem lawRanges_true (a b : UInt8) (w : World) : Calls Try.prog 8 #[.int .u8 a.toNat, .int .u8 b.toNat, .bool true] w fun e w' => e = .returned (.bool true) ∧ Kept w w' := by
  have ha : a.toNat ≤ 255 := by have := a.toNat_lt; omega
  have hb : b.toNat ≤ 255 := by have := b.toNat_lt; omega
  go_enter Try.func8, Try.ntmps8
  go_wp2_with fail
  refine (alive_any w).mono ?_
  rintro e w1 ⟨rfl, hk⟩
  have HK := Lib.hid hk
  clear hk
  have cv1 := conv_one w1 a
  have cv2 := conv_one (w1.alloc (.cells #[.int .u8 a.toNat] 5)) b
  rw [World.size_alloc] at cv2
  go_wp2_with fail
  rw [show ({ data := #[91, 94] } ++ { data := #[92] } ++ { data := #[a] } ++ { data := #[45, 92] } ++ { data := #[b] } ++ { data := #[93] } : ByteArray) = rngT true a b from rfl]
  have hk2 : Kept w ((w1.alloc (.cells #[.int .u8 a.toNat] 5)).alloc (.cells #[.int .u8 b.toNat] 5)) := (HK.out.alloc _).alloc _
  clear cv1 cv2
  generalize (w1.alloc _).alloc _ = w2 at hk2 ⊢
  refine (Parse_any _ w2).mono ?_
  rw [rng_true]
  rintro e w3 ⟨u, rfl, hx, hk3⟩
  replace HK := Lib.hid (hk2.trans hk3)
  clear hk2 hk3
  by_cases hab : b < a
  · rw [if_pos hab] at hx ⊢
    obtain ⟨A, m, p, rfl⟩ := hx.inv
    have hlt : (b.toNat : Int) < a.toNat := by have := UInt8.lt_iff_toNat_lt.1 hab; omega
    clear hx hab
    simp only [re6_form]
    go_wp2_with ((go_at_call 13; refine (num_any _ _).mono ?_; rintro _ _ ⟨rfl, rfl⟩))
    go_ret
    exact ⟨rfl, HK.out.alloc _⟩
  · rw [if_neg hab] at hx ⊢
    obtain ⟨A, m, p, rfl⟩ := hx.inv
    have hlt : ¬ (b.toNat : Int) < a.toNat := fun h => hab (UInt8.lt_iff_toNat_lt.2 (by omega))
    have hbits : ∀ k : Nat, k ≤ 255 → (Re.set (.mk 1 (~~~ (putR 0#256 a b)) [])).getLsbD k = !(decide (a.toNat ≤ k ∧ k ≤ b.toNat)) := fun k hk => by
      show (~~~ (putR 0#256 a b)).getLsbD k = _
      rw [BitVec.getLsbD_not, putR_bit]
      rw [BitVec.getLsbD_zero, Bool.false_or]; simp only [show k < 256 from by omega, decide_true, Bool.true_and]
    have HX := Lib.hid hbits
    generalize Re.set (.mk 1 (~~~ (putR 0#256 a b)) []) = X at HX ⊢
    clear hx hab hbits
    simp only [re6_form]
    go_wp2_with ((go_at_call 13; refine (num_any _ _).mono ?_; rintro _ _ ⟨rfl, rfl⟩))
    have HA := Lib.hid (alloc1 w3 (.cells #[.int .i64 (1 : Nat), .int .u64 (wdN X 0), .int .u64 (wdN X 1), .int .u64 (wdN X 2), .int .u64 (wdN X 3), .slice A m p] 27))
    go_loopw [12, 13] (fun i _ wr => ∃ k : Nat, i = .int .i64 k ∧ k ≤ 256 ∧ wr.heap[w3.heap.size]? = some (.cells #[.int .i64 (1 : Nat), .int .u64 (wdN X 0), .int .u64 (wdN X 1), .int .u64 (wdN X 2), .int .u64 (wdN X 3), .slice A m p] 27 (0, 0)) ∧ Kept w wr) (fun i _ _ => 256 - (intOf i).toNat)
    case atStart => exact ⟨0, rfl, by omega, HA.out.1, HK.out.trans HA.out.2⟩
    case round =>
      clear HK HA
      obtain ⟨k, rfl, hk, hb3, hkw⟩ := hrel
      have H := Lib.hid (And.intro hb3 hkw)
      obtain ⟨⟨x0, x1, x2, x3, x4, x5⟩, -⟩ := box6 hb3
      clear hb3 hkw
      by_cases hlt2 : k ≤ 255
      · have hbit := HX.out k hlt2
        by_cases h1 : k < a.toNat
        · have i1 : (k : Int) < a.toNat := by omega
          have e : decide (a.toNat ≤ k ∧ k ≤ b.toNat) = false := by simp; omega
          rw [e] at hbit
          have HB := Lib.hid hbit
          clear hbit e
          go_wp2_with fail
          refine (has4 X k hlt2 wr).mono ?_
          rintro e w5 ⟨rfl, hk5⟩
          rw [HB.out]
          replace H := Lib.hid (And.intro (hk5.blk H.out.1) (H.out.2.trans hk5))
          clear hk5 x0 x1 x2 x3 x4 x5
          go_wp2_with fail
          go_roundw
          case rel => exact ⟨k + 1, by go_num, by omega, H.out⟩
          case measure => simp [intOf]; omega
        by_cases h2 : k ≤ b.toNat
        · have i1 : ¬ (k : Int) < a.toNat := by omega
          have i2 : (k : Int) ≤ b.toNat := by omega
          have e : decide (a.toNat ≤ k ∧ k ≤ b.toNat) = true := by simp; omega
          rw [e] at hbit
          have HB := Lib.hid hbit
          clear hbit e
          go_wp2_with fail
          refine (has4 X k hlt2 wr).mono ?_
          rintro e w5 ⟨rfl, hk5⟩
          rw [HB.out]
          replace H := Lib.hid (And.intro (hk5.blk H.out.1) (H.out.2.trans hk5))
          clear hk5 x0 x1 x2 x3 x4 x5
          go_wp2_with fail
          go_roundw
          case rel => exact ⟨k + 1, by go_num, by omega, H.out⟩
          case measure => simp [intOf]; omega
        · have i1 : ¬ (k : Int) < a.toNat := by omega
          have i2 : ¬ (k : Int) ≤ b.toNat := by omega
          have e : decide (a.toNat ≤ k ∧ k ≤ b.toNat) = false := by simp; omega
          rw [e] at hbit
          have HB := Lib.hid hbit
          clear hbit e
          go_wp2_with fail
          refine (has4 X k hlt2 wr).mono ?_
          rintro e w5 ⟨rfl, hk5⟩
          rw [HB.out]
          replace H := Lib.hid (And.intro (hk5.blk H.out.1) (H.out.2.trans hk5))
          clear hk5 x0 x1 x2 x3 x4 x5
          go_wp2_with fail
          go_roundw
          case rel => exact ⟨k + 1, by go_num, by omega, H.out⟩
          case measure => simp [intOf]; omega
      · have hk6 : k = 256 := by omega
        subst hk6
        go_wp2_with fail
        go_ret
        exact ⟨rfl, H.out.2⟩
theorem ranges_in (z0 z1 : Int) (n : Bool) (h0 : (Lit.int .u8 z0).wf = true) (h1 : (Lit.int .u8 z1).wf = true) (w : World) : Calls Try.prog 8 #[.int .u8 z0, .int .u8 z1, .bool n] w fun e w' => e = .returned (.bool true) ∧ Kept w w' := by
  have key : ∀ {z : Int}, (Lit.int .u8 z).wf = true → ∃ c : UInt8, z = c.toNat := fun {z} h => by
    have : 0 ≤ z ∧ z ≤ 255 := by simpa [Lit.wf, IntKind.min, IntKind.max, IntKind.signed, IntKind.bits] using h
    refine ⟨UInt8.ofNat z.toNat, ?_⟩
    rw [UInt8.toNat_ofNat']
    omega
  obtain ⟨a, rfl⟩ := key h0
  obtain ⟨b, rfl⟩ := key h1
  cases n
  · exact lawRanges_false a b w
  · exact lawRanges_true a b w
end Go.Proofs.Ytpnmcinbohdmhaa
