/-
  For every byte the law RegexBytes returns true. Conditions: none.
-/
import Derived.Test.YtpnmcinbohdmhaaShow3
set_option linter.unusedSimpArgs false
namespace Go.Proofs.Ytpnmcinbohdmhaa
open Go Go.RowKit Kit
theorem bytes_facts : ∀ c : Fin 256, ((parseP ⟨#[92, UInt8.ofNat c.val]⟩).2.2 = 0 ∧ (parseP ⟨#[92, UInt8.ofNat c.val]⟩).1.op = 1 ∧ (parseP ⟨#[92, UInt8.ofNat c.val]⟩).1.set = single (UInt8.ofNat c.val)) ∧ (parseP (showT (UInt8.ofNat c.val))).2.2 = 0 ∧ (parseP (showT (UInt8.ofNat c.val))).1.set = single (UInt8.ofNat c.val) := by decide +kernel
theorem bytes_fact (c : UInt8) : ((parseP ⟨#[92, c]⟩).2.2 = 0 ∧ (parseP ⟨#[92, c]⟩).1.op = 1 ∧ (parseP ⟨#[92, c]⟩).1.set = single c) ∧ (parseP (showT c)).2.2 = 0 ∧ (parseP (showT c)).1.set = single c := by
  have h := bytes_facts ⟨c.toNat, c.toNat_lt⟩
  simpa using h
theorem showT_pos (c : UInt8) : 1 ≤ (showT c).size := by
  unfold showT
  split
  · show 1 ≤ 2; omega
  · show 1 ≤ 1; omega
set_option maxRecDepth 100000 in
set_option maxHeartbeats 4000000 in
theorem lawBytes_any (c : UInt8) (cn : Nat) (HC : Hid (c.toNat = cn)) (w : World) : Calls Try.prog 7 #[.int .u8 cn] w fun e w' => e = .returned (.bool true) ∧ Kept w w' := by
  have hcn : cn ≤ 255 := by have := c.toNat_lt; rw [← HC.out]; omega
  have HF := Lib.hid (bytes_fact c)
  go_enter Try.func7, Try.ntmps7
  go_wp2_with fail
  refine (alive_any w).mono ?_
  rintro e w1 ⟨rfl, hk⟩
  have HK := Lib.hid hk
  clear hk
  have cv := conv1 w1 c
  rw [HC.out] at cv
  go_wp2_with fail
  rw [show ({ data := #[92] } ++ { data := #[c] } : ByteArray) = ⟨#[92, c]⟩ from rfl]
  have hk2 : Kept w (w1.alloc (.cells #[.int .u8 cn] 5)) := HK.out.alloc _
  clear cv
  generalize w1.alloc _ = w2 at hk2 ⊢
  refine (Parse_any _ w2).mono ?_
  rintro e w3 ⟨u, rfl, hx, hk3⟩
  obtain ⟨A, m, p, rfl⟩ := hx.inv
  rw [HF.out.1.1, HF.out.1.2.1, HF.out.1.2.2]
  generalize (parseP ⟨#[92, c]⟩).2.1 = a1
  obtain ⟨X, hX⟩ : ∃ X, single c = X := ⟨_, rfl⟩
  have hbit : ∀ i, X.getLsbD i = decide (i = cn) := fun i => by rw [← hX, ← HC.out]; exact single_bit c i
  rw [hX]
  have HX := Lib.hid (And.intro hX hbit)
  replace HK := Lib.hid (hk2.trans hk3)
  clear hx hk2 hk3 hX hbit
  simp only [re6_form]
  go_wp2_with fail
  obtain ⟨h0, hk⟩ := alloc1 w3 (.cells #[.int .i64 (1 : Nat), .int .u64 (wdN X 0), .int .u64 (wdN X 1), .int .u64 (wdN X 2), .int .u64 (wdN X 3), .slice A m p] 27)
  have H0 := Lib.hid (And.intro h0 (HK.out.trans hk))
  clear h0 hk
  generalize w3.alloc _ = w4 at H0 ⊢
  refine (Show_any X c (by rw [HC.out]; exact HX.out.2) _ w4).mono ?_
  rintro e w5 ⟨rfl, hk⟩
  have hsz1 := showT_pos c
  have hsz2 := showT_size c
  replace H0 := Lib.hid (And.intro (hk.blk H0.out.1) (H0.out.2.trans hk))
  clear hk
  go_wp2_with fail
  refine (Parse_any (showT c) w5).mono ?_
  rintro e w6 ⟨u, rfl, hx, hk3⟩
  obtain ⟨A2, m2, p2, rfl⟩ := hx.inv
  rw [HF.out.2.1, HF.out.2.2, HX.out.1]
  generalize (parseP (showT c)).2.1 = a2
  generalize (parseP (showT c)).1.op = o2
  replace H0 := Lib.hid (And.intro (hk3.blk H0.out.1) (H0.out.2.trans hk3))
  clear hx hk3
  generalize hT : (showT c).size = T at hsz1 hsz2
  have HT := Lib.hid hT
  clear hT
  simp only [re6_form]
  have HA := Lib.hid (alloc1 w6 (.cells #[.int .i64 o2, .int .u64 (wdN X 0), .int .u64 (wdN X 1), .int .u64 (wdN X 2), .int .u64 (wdN X 3), .slice A2 m2 p2] 27))
  have HI : Hid ((w6.alloc (.cells #[.int .i64 o2, .int .u64 (wdN X 0), .int .u64 (wdN X 1), .int .u64 (wdN X 2), .int .u64 (wdN X 3), .slice A2 m2 p2] 27)).heap[w3.heap.size]? = some (.cells #[.int .i64 (1 : Nat), .int .u64 (wdN X 0), .int .u64 (wdN X 1), .int .u64 (wdN X 2), .int .u64 (wdN X 3), .slice A m p] 27 (0, 0)) ∧ (w6.alloc (.cells #[.int .i64 o2, .int .u64 (wdN X 0), .int .u64 (wdN X 1), .int .u64 (wdN X 2), .int .u64 (wdN X 3), .slice A2 m2 p2] 27)).heap[w6.heap.size]? = some (.cells #[.int .i64 o2, .int .u64 (wdN X 0), .int .u64 (wdN X 1), .int .u64 (wdN X 2), .int .u64 (wdN X 3), .slice A2 m2 p2] 27 (0, 0)) ∧ Kept w (w6.alloc (.cells #[.int .i64 o2, .int .u64 (wdN X 0), .int .u64 (wdN X 1), .int .u64 (wdN X 2), .int .u64 (wdN X 3), .slice A2 m2 p2] 27))) := Lib.hid ⟨HA.out.2.blk H0.out.1, HA.out.1, H0.out.2.trans HA.out.2⟩
  have z1 : ¬ ((showT c).size : Int) < 1 := by rw [HT.out]; omega
  have z2 : ¬ (2 : Int) < ((showT c).size : Int) := by rw [HT.out]; omega
  go_wp2_with ((go_at_call 13; refine (num_any _ _).mono ?_; rintro _ _ ⟨rfl, rfl⟩))
  go_loopw [11, 12] (fun i _ wr => ∃ k : Nat, i = .int .i64 k ∧ k ≤ 256 ∧ wr.heap[w3.heap.size]? = some (.cells #[.int .i64 (1 : Nat), .int .u64 (wdN X 0), .int .u64 (wdN X 1), .int .u64 (wdN X 2), .int .u64 (wdN X 3), .slice A m p] 27 (0, 0)) ∧ wr.heap[w6.heap.size]? = some (.cells #[.int .i64 o2, .int .u64 (wdN X 0), .int .u64 (wdN X 1), .int .u64 (wdN X 2), .int .u64 (wdN X 3), .slice A2 m2 p2] 27 (0, 0)) ∧ Kept w wr) (fun i _ _ => 256 - (intOf i).toNat)
  case atStart => exact ⟨0, rfl, by omega, HI.out⟩
  case round =>
    clear HI HA H0 HK
    obtain ⟨k, rfl, hk, hb3, hb6, hkw⟩ := hrel
    have H := Lib.hid (And.intro hb3 (And.intro hb6 hkw))
    obtain ⟨⟨x0, x1, x2, x3, x4, x5⟩, -⟩ := box6 hb3
    obtain ⟨⟨y0, y1, y2, y3, y4, y5⟩, -⟩ := box6 hb6
    clear hb3 hb6 hkw
    by_cases hlt2 : k ≤ 255
    · by_cases hkc : k = cn
      · have HB := Lib.hid (show X.getLsbD k = true by rw [HX.out.2 k]; simp [hkc])
        subst hkc
        go_wp2_with fail
        refine (has4 X k hlt2 wr).mono ?_
        rintro e w7 ⟨rfl, hk5⟩
        rw [HB.out]
        replace H := Lib.hid (And.intro (hk5.blk H.out.1) (And.intro (hk5.blk H.out.2.1) (H.out.2.2.trans hk5)))
        clear hk5
        clear x0 x1 x2 x3 x4 x5 y0 y1 y2 y3 y4 y5
        obtain ⟨⟨y0, y1, y2, y3, y4, y5⟩, -⟩ := box6 H.out.2.1
        go_wp2_with fail
        refine (has4 X k hlt2 w7).mono ?_
        rintro e w8 ⟨rfl, hk5⟩
        rw [HB.out]
        replace H := Lib.hid (And.intro (hk5.blk H.out.1) (And.intro (hk5.blk H.out.2.1) (H.out.2.2.trans hk5)))
        clear hk5
        clear y0 y1 y2 y3 y4 y5
        go_wp2_with fail
        go_roundw
        case rel => exact ⟨k + 1, by go_num, by omega, H.out⟩
        case measure => simp [intOf]; omega

      · have hki : ¬ (k : Int) = cn := by omega
        have HB := Lib.hid (show X.getLsbD k = false by rw [HX.out.2 k]; simp [hkc])
        clear hkc
        go_wp2_with fail
        refine (has4 X k hlt2 wr).mono ?_
        rintro e w7 ⟨rfl, hk5⟩
        rw [HB.out]
        replace H := Lib.hid (And.intro (hk5.blk H.out.1) (And.intro (hk5.blk H.out.2.1) (H.out.2.2.trans hk5)))
        clear hk5
        clear x0 x1 x2 x3 x4 x5 y0 y1 y2 y3 y4 y5
        obtain ⟨⟨y0, y1, y2, y3, y4, y5⟩, -⟩ := box6 H.out.2.1
        go_wp2_with fail
        refine (has4 X k hlt2 w7).mono ?_
        rintro e w8 ⟨rfl, hk5⟩
        rw [HB.out]
        replace H := Lib.hid (And.intro (hk5.blk H.out.1) (And.intro (hk5.blk H.out.2.1) (H.out.2.2.trans hk5)))
        clear hk5
        clear y0 y1 y2 y3 y4 y5
        go_wp2_with fail
        go_roundw
        case rel => exact ⟨k + 1, by go_num, by omega, H.out⟩
        case measure => simp [intOf]; omega

    · have hk6 : k = 256 := by omega
      subst hk6
      go_wp2_with fail
      go_ret
      exact ⟨rfl, H.out.2.2⟩
theorem bytes_in (z : Int) (h : (Lit.int .u8 z).wf = true) (w : World) : Calls Try.prog 7 #[.int .u8 z] w fun e w' => e = .returned (.bool true) ∧ Kept w w' := by
  have h2 : 0 ≤ z ∧ z ≤ 255 := by simpa [Lit.wf, IntKind.min, IntKind.max, IntKind.signed, IntKind.bits] using h
  obtain ⟨c, rfl⟩ : ∃ c : UInt8, z = c.toNat := ⟨UInt8.ofNat z.toNat, by rw [UInt8.toNat_ofNat']; omega⟩
  exact lawBytes_any c _ (Lib.hid rfl) w
end Go.Proofs.Ytpnmcinbohdmhaa
