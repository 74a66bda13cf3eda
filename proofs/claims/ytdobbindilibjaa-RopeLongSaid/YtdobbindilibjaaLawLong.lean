/-
  What the law RopeLong does.
-/
import Derived.Test.YtdobbindilibjaaAlive
set_option linter.unusedSimpArgs false
namespace Go.Proofs.Ytdobbindilibjaa
open Go Go.RowKit Kit
theorem doL_len (b : List UInt8) (at' : Int) (l : List UInt8) : (doL b at' 0 l).length = b.length + l.length := by
  unfold doL
  have h := cutI_bd at' b.length
  have h2 := h.2 (by omega)
  have e : cutI 0 (b.length - cutI at' b.length) = 0 := by unfold cutI at *; omega
  rw [e]
  simp only [List.length_append, List.length_take, List.length_drop]
  omega
set_option maxHeartbeats 2000000 in
theorem long_in (N : Nat) (fr : Bool) (w : World) (hN : N ≤ 1500) : Calls Try.prog 5 #[.int .i64 (N : Int), .bool fr] w fun e w' => e = .returned (.bool true) ∧ Kept w w' := by
  have x1 : ¬ (N : Int) < 0 := by omega
  have x2 : ¬ (N : Int) > 1500 := by omega
  go_enter Try.func5, Try.ntmps5
  go_wp2_with fail
  refine (alive_any w).mono ?_
  rintro e w1 ⟨rfl, k1⟩
  have K1 := Lib.hid k1
  clear k1
  go_wp2_with fail
  refine (new_any [] (by decide) _ w1 (Bs.nil w1)).mono ?_
  rintro e w2 ⟨u, m, rfl, h2, hm, k2⟩
  have H2 := Lib.hid h2
  have K2 := Lib.hid (And.intro (K1.out.trans k2) (Nat.le_trans K1.out.size hm))
  clear hm k2 K1 h2
  go_wp2_with fail
  go_loopw [6, 7] (fun r i W => ∃ (k : Nat) (s : List UInt8), i = .int .i64 (k : Int) ∧ k ≤ N ∧ s.length = k ∧ Rp W r s m ∧ Kept w W) (fun _ i _ => N - (intOf i).toNat)
  case atStart => exact ⟨0, [], rfl, Nat.zero_le _, rfl, H2.out, K2.out.1⟩
  case round =>
    obtain ⟨k, s, rfl, hk, hs, hr, hkw⟩ := hrel
    have HR := Lib.hid (And.intro hr (And.intro hkw hs))
    obtain ⟨g, root, rfl, -⟩ := hr
    clear hkw hs H2
    unfold ptr
    by_cases hlt : k < N
    · have y1 : (k : Int) < N := by omega
      cases fr with
      | true =>
        go_wp2_with fail
        have h3 : Bs (wr.alloc (.cells #[.int .u8 ((k : Int) % 256)] 5 (0, 0))) (.slice (some ⟨wr.heap.size, 0, none⟩) 1 1) [UInt8.ofNat (k % 256)] := Bs.lit (l := [UInt8.ofNat (k % 256)]) (blk_new wr _) (by simp [bv]) (by simp [maxLen])
        refine (Splice_any _ s m 0 0 _ _ _ (HR.out.1.kept ((Kept.refl _).alloc _)) h3 (by have := HR.out.2.2; omega) (by simp)).mono ?_
        rintro e w4 ⟨v4, rfl, h4, k4⟩
        have H4 := Lib.hid (And.intro h4 ((HR.out.2.1.alloc _).above k4 K2.out.2))
        obtain ⟨g4, root4, rfl, -⟩ := h4
        clear h3 k4
        unfold ptr
        go_wp2_with fail
        go_roundw
        case rel => exact ⟨k + 1, _, by go_num, by omega, by rw [doL_len, HR.out.2.2]; rfl, H4.out.1, H4.out.2⟩
        case measure => simp [intOf]; omega
      | false =>
        go_wp2_with fail
        have h3 : Bs (wr.alloc (.cells #[.int .u8 ((k : Int) % 256)] 5 (0, 0))) (.slice (some ⟨wr.heap.size, 0, none⟩) 1 1) [UInt8.ofNat (k % 256)] := Bs.lit (l := [UInt8.ofNat (k % 256)]) (blk_new wr _) (by simp [bv]) (by simp [maxLen])
        refine (Splice_any _ s m (k : Int) 0 _ _ _ (HR.out.1.kept ((Kept.refl _).alloc _)) h3 (by have := HR.out.2.2; omega) (by simp)).mono ?_
        rintro e w4 ⟨v4, rfl, h4, k4⟩
        have H4 := Lib.hid (And.intro h4 ((HR.out.2.1.alloc _).above k4 K2.out.2))
        obtain ⟨g4, root4, rfl, -⟩ := h4
        clear h3 k4
        unfold ptr
        go_wp2_with fail
        go_roundw
        case rel => exact ⟨k + 1, _, by go_num, by omega, by rw [doL_len, HR.out.2.2]; rfl, H4.out.1, H4.out.2⟩
        case measure => simp [intOf]; omega
    · have y1 : ¬ (k : Int) < N := by omega
      go_wp2_with fail
      refine (Len_any _ s m _ HR.out.1).mono ?_
      rintro e w3 ⟨rfl, rfl⟩
      rw [HR.out.2.2]
      obtain rfl : k = N := by omega
      go_wp2_with fail
      refine (Height_any _ s m _ HR.out.1).mono ?_
      rintro e w3 ⟨⟨q, rfl, h1, h2⟩, rfl⟩
      have hq : q ≤ 3 + 2 * bits k := by
        rcases h2 with ⟨_, rfl⟩ | ⟨t, t1, t2, rfl⟩
        · omega
        · have := high_ok t t1
          rw [t2, HR.out.2.2] at this
          exact this
      clear h1 h2
      go_wp2_with fail
      refine (tall_any k _ (by omega)).mono ?_
      rintro e w3 ⟨rfl, rfl⟩
      have hq2 : (q : Int) ≤ ((3 + 2 * bits k : Nat) : Int) := by omega
      generalize 3 + 2 * bits k = T at *
      go_wp2_with fail
      go_ret
      exact ⟨rfl, HR.out.2.1⟩
theorem long_any (n : Int) (fr : Bool) (w : World) : Calls Try.prog 5 #[.int .i64 n, .bool fr] w fun e w' => e = .returned (.bool true) ∧ Kept w w' := by
  by_cases h : 0 ≤ n ∧ n ≤ 1500
  · obtain ⟨N, rfl⟩ := Int.eq_ofNat_of_zero_le h.1
    exact long_in N fr w (by omega)
  · by_cases h0 : n < 0
    · go_enter Try.func5, Try.ntmps5
      go_wp2_with fail
      refine (alive_any w).mono ?_
      rintro e w1 ⟨rfl, k1⟩
      have K1 := Lib.hid k1
      clear k1
      go_wp2_with fail
      go_ret
      exact ⟨rfl, K1.out⟩
    · have h1 : n > 1500 := by omega
      clear h
      go_enter Try.func5, Try.ntmps5
      go_wp2_with fail
      refine (alive_any w).mono ?_
      rintro e w1 ⟨rfl, k1⟩
      have K1 := Lib.hid k1
      clear k1
      go_wp2_with fail
      go_ret
      exact ⟨rfl, K1.out⟩
end Go.Proofs.Ytdobbindilibjaa
