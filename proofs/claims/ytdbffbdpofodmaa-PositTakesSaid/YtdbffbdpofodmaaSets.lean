/-
  What the small functions of package regex do on sets of bytes.
-/
import Derived.Test.YtdbffbdpofodmaaWords
import Derived.RegionTactic
import Derived.ChangeAlike
import Derived.Deep.QuietTactic
import Derived.BigQuiet
import Derived.Deep.LoopGhost
set_option linter.unusedSimpArgs false
namespace Go.Proofs.Ytdbffbdpofodmaa
open Go Go.RowKit Kit

/-- A set, of which the first n words are turned over. -/
def mix (x : BitVec 256) : Nat → Array Value
  | 0 => #[wd x 0, wd x 1, wd x 2, wd x 3]
  | 1 => #[wd (~~~ x) 0, wd x 1, wd x 2, wd x 3]
  | 2 => #[wd (~~~ x) 0, wd (~~~ x) 1, wd x 2, wd x 3]
  | 3 => #[wd (~~~ x) 0, wd (~~~ x) 1, wd (~~~ x) 2, wd x 3]
  | _ => #[wd (~~~ x) 0, wd (~~~ x) 1, wd (~~~ x) 2, wd (~~~ x) 3]
theorem turn_w (x : BitVec 256) (q : Nat) (hq : q < 4) : bits .xor .u64 (if IntKind.u64.signed = true then -1 else IntKind.u64.max) (wdN x q : Int) = (wdN (~~~ x) q : Int) := by
  have e : (if IntKind.u64.signed = true then -1 else IntKind.u64.max) = ((18446744073709551615 : Nat) : Int) := by decide +kernel
  rw [e, bits_xor_u64_nat _ _ (by decide) (wdN_lt _ _)]
  congr 1
  rw [wdN_not x hq]
  have h := wdN_lt x q
  generalize wdN x q = v at *
  have h2 : 18446744073709551615 - v = 2 ^ 64 - (v + 1) := by omega
  rw [h2, show (18446744073709551615 : Nat) = 2 ^ 64 - 1 from rfl]
  apply Nat.eq_of_testBit_eq
  intro i
  rw [Nat.testBit_xor, Nat.testBit_two_pow_sub_one, Nat.testBit_two_pow_sub_succ (by omega)]
  by_cases hi : i < 64
  · simp [hi]
  · have : v.testBit i = false := Nat.testBit_lt_two_pow (Nat.lt_of_lt_of_le (by omega : v < 2 ^ 64) (Nat.pow_le_pow_right (by decide) (by omega)))
    simp [hi, this]
theorem has_bool (x : BitVec 256) (c q m v : Nat) (hq : c / 64 = q) (hm : c % 64 = m) (hv : wdN x q = v) : (bits BinOp.and IntKind.u64 ((v : Int) / 2 ^ m) 1 == 1) = x.getLsbD c := by
  have h := wdN_has x c
  rw [hq, hm, hv] at h
  have hlt := wdN_lt x q
  rw [hv] at hlt
  have h2 : v / 2 ^ m ≤ v := Nat.div_le_self _ _
  rw [show ((v : Int) / 2 ^ m) = ((v / 2 ^ m : Nat) : Int) from by simp]
  generalize v / 2 ^ m = z at *
  rw [and_one_u64 _ (by omega) (by omega)]
  by_cases hb : x.getLsbD c = true
  · rw [hb] at h ⊢
    simp at h ⊢
    omega
  · simp only [Bool.not_eq_true] at hb
    rw [hb] at h ⊢
    simp at h ⊢
    omega
set_option maxHeartbeats 2000000 in
theorem Has_any (x : BitVec 256) (c : Nat) (hc : c ≤ 255) (w : World) : Calls Try.prog 55 #[set4 x, .int .u8 c] w fun e w' => e = .returned (.bool (x.getLsbD c)) ∧ Kept w w' := by
  obtain ⟨q, hq⟩ : ∃ q, c / 64 = q := ⟨_, rfl⟩
  obtain ⟨m, hm⟩ : ∃ m, c % 64 = m := ⟨_, rfl⟩
  obtain ⟨v, hv⟩ : ∃ v, wdN x q = v := ⟨_, rfl⟩
  have hqi : (c : Int) / 64 = (q : Int) := by omega
  have hq0 : (0 : Int) ≤ q := by omega
  have hq4 : (q : Int) < 4 := by omega
  have hand : bits .and .u8 (c : Int) 63 = (m : Int) := by rw [← hm]; exact and63_u8 c (by omega)
  have hcell : (w.alloc (.cells #[wd x 0, wd x 1, wd x 2, wd x 3] 23)).cell? ⟨w.heap.size, q, none⟩ = some (.int .u64 (v : Int)) := by
    rw [blk_cell (blk_new _ _), ← hv]
    rcases (by omega : q = 0 ∨ q = 1 ∨ q = 2 ∨ q = 3) with rfl | rfl | rfl | rfl <;> rfl
  unfold set4
  simp only [wd_eq] at hcell ⊢
  go_enter Try.func55, Try.ntmps55
  go_wp2
  go_ret
  exact ⟨by rw [has_bool x c q m v hq hm hv]; rfl, (Kept.refl _).alloc _⟩
set_option maxHeartbeats 2000000 in
theorem RHas_any (x : BitVec 256) (c : Nat) (hc : c ≤ 255) (w : World) : Calls Try.prog 32 #[set4 x, .int .u8 c] w fun e w' => e = .returned (.bool (x.getLsbD c)) ∧ Kept w w' := by
  obtain ⟨q, hq⟩ : ∃ q, c / 64 = q := ⟨_, rfl⟩
  obtain ⟨m, hm⟩ : ∃ m, c % 64 = m := ⟨_, rfl⟩
  obtain ⟨v, hv⟩ : ∃ v, wdN x q = v := ⟨_, rfl⟩
  have hqi : (c : Int) / 64 = (q : Int) := by omega
  have hq0 : (0 : Int) ≤ q := by omega
  have hq4 : (q : Int) < 4 := by omega
  have hand : bits .and .u8 (c : Int) 63 = (m : Int) := by rw [← hm]; exact and63_u8 c (by omega)
  have hcell : (w.alloc (.cells #[wd x 0, wd x 1, wd x 2, wd x 3] 23)).cell? ⟨w.heap.size, q, none⟩ = some (.int .u64 (v : Int)) := by
    rw [blk_cell (blk_new _ _), ← hv]
    rcases (by omega : q = 0 ∨ q = 1 ∨ q = 2 ∨ q = 3) with rfl | rfl | rfl | rfl <;> rfl
  unfold set4
  simp only [wd_eq] at hcell ⊢
  go_enter Try.func32, Try.ntmps32
  go_wp2
  go_ret
  exact ⟨by rw [has_bool x c q m v hq hm hv]; rfl, (Kept.refl _).alloc _⟩
set_option maxHeartbeats 2000000 in
theorem With_any (x : BitVec 256) (c : Nat) (hc : c ≤ 255) (w : World) : Calls Try.prog 61 #[set4 x, .int .u8 c] w fun e w' => e = .returned (set4 (x ||| (1#256 <<< c))) ∧ Kept w w' := by
  obtain ⟨q, hq⟩ : ∃ q, c / 64 = q := ⟨_, rfl⟩
  obtain ⟨m, hm⟩ : ∃ m, c % 64 = m := ⟨_, rfl⟩
  obtain ⟨p, hp⟩ : ∃ p, 2 ^ m = p := ⟨_, rfl⟩
  obtain ⟨v, hv⟩ : ∃ v, wdN x q = v := ⟨_, rfl⟩
  obtain ⟨z, hz⟩ : ∃ z, v ||| p = z := ⟨_, rfl⟩
  have hand : bits .and .u8 (c : Int) 63 = (m : Int) := by rw [← hm]; exact and63_u8 c (by omega)
  have hshl : IntKind.u64.wrap (2 ^ min m 64) = (p : Int) := by rw [← hp]; exact shl_w m (by omega)
  have hshl2 : IntKind.u64.wrap (2 ^ m) = (p : Int) := by rw [← hshl, show min m 64 = m from by omega]
  have hor : bits .or .u64 (v : Int) (p : Int) = (z : Int) := by
    rw [← hz]
    exact bits_or_u64_nat _ _ (by rw [← hv]; exact wdN_lt _ _) (by rw [← hp]; exact Nat.pow_lt_pow_right (n := 64) (by decide) (by omega))
  have hm63 : m ≤ 63 := by omega
  have hw : ∀ i, wdN (x ||| (1#256 <<< c)) i = if i = q then z else wdN x i := fun i => by
    rw [wdN_put x (by omega), hq, hm, hp, ← hz]
    split
    · rename_i h; rw [← hv, h]
    · rfl
  have e : set4 (x ||| (1#256 <<< c)) = .agg #[.int .u64 ((if 0 = q then z else wdN x 0 : Nat) : Int), .int .u64 ((if 1 = q then z else wdN x 1 : Nat) : Int), .int .u64 ((if 2 = q then z else wdN x 2 : Nat) : Int), .int .u64 ((if 3 = q then z else wdN x 3 : Nat) : Int)] := by
    unfold set4
    simp only [wd_eq, hw]
  rw [e]
  clear e hw
  unfold set4
  simp only [wd_eq]
  have HC := Lib.hid (And.intro hm hp)
  clear hm hp
  rcases (by omega : q = 0 ∨ q = 1 ∨ q = 2 ∨ q = 3) with rfl | rfl | rfl | rfl
  · have hqi : (c : Int) / 64 = 0 := by omega
    simp (decide := true) only [if_true, if_false, reduceIte]
    rw [hv]
    clear hz hv hq
    go_enter Try.func61, Try.ntmps61
    go_wp2
    refine bodyPost_ret (v := .agg #[.int .u64 (z : Int), .int .u64 (wdN x 1 : Int), .int .u64 (wdN x 2 : Int), .int .u64 (wdN x 3 : Int)]) ?_ rfl ⟨rfl, ?_⟩
    · simp [results, Try.results61, go_sem]
    · exact ((Kept.refl _).alloc _).alloc _
  · have hqi : (c : Int) / 64 = 1 := by omega
    simp (decide := true) only [if_true, if_false, reduceIte]
    rw [hv]
    clear hz hv hq
    go_enter Try.func61, Try.ntmps61
    go_wp2
    refine bodyPost_ret (v := .agg #[.int .u64 (wdN x 0 : Int), .int .u64 (z : Int), .int .u64 (wdN x 2 : Int), .int .u64 (wdN x 3 : Int)]) ?_ rfl ⟨rfl, ?_⟩
    · simp [results, Try.results61, go_sem]
    · exact ((Kept.refl _).alloc _).alloc _
  · have hqi : (c : Int) / 64 = 2 := by omega
    simp (decide := true) only [if_true, if_false, reduceIte]
    rw [hv]
    clear hz hv hq
    go_enter Try.func61, Try.ntmps61
    go_wp2
    refine bodyPost_ret (v := .agg #[.int .u64 (wdN x 0 : Int), .int .u64 (wdN x 1 : Int), .int .u64 (z : Int), .int .u64 (wdN x 3 : Int)]) ?_ rfl ⟨rfl, ?_⟩
    · simp [results, Try.results61, go_sem]
    · exact ((Kept.refl _).alloc _).alloc _
  · have hqi : (c : Int) / 64 = 3 := by omega
    simp (decide := true) only [if_true, if_false, reduceIte]
    rw [hv]
    clear hz hv hq
    go_enter Try.func61, Try.ntmps61
    go_wp2
    refine bodyPost_ret (v := .agg #[.int .u64 (wdN x 0 : Int), .int .u64 (wdN x 1 : Int), .int .u64 (wdN x 2 : Int), .int .u64 (z : Int)]) ?_ rfl ⟨rfl, ?_⟩
    · simp [results, Try.results61, go_sem]
    · exact ((Kept.refl _).alloc _).alloc _
theorem zagg4 : set4 0#256 = .agg #[.int .u64 0, .int .u64 0, .int .u64 0, .int .u64 0] := by unfold set4; simp only [wd_zero]
theorem one_any (c : Nat) (hc : c ≤ 255) (w : World) : Calls Try.prog 58 #[.int .u8 c] w fun e w' => e = .returned (re6 1 (putN 0#256 c 1) (.slice none 0 0)) ∧ Kept w w' := by
  go_enter Try.func58, Try.ntmps58
  go_wp2_with fail
  obtain ⟨h0, h1, hk⟩ := alloc2 w (.cells #[.int .i64 0, .int .u64 0, .int .u64 0, .int .u64 0, .int .u64 0, .slice none 0 0] 26) (.cells #[.int .u64 0, .int .u64 0, .int .u64 0, .int .u64 0] 23)
  generalize (w.alloc _).alloc _ = wa at *
  rw [← zagg4]
  refine (With_any 0#256 c hc wa).mono ?_
  rintro e w1 ⟨rfl, hk1⟩
  have H := Lib.hid (And.intro (hk1.blk h0) (hk.trans hk1))
  obtain ⟨⟨d0, d1, d2, d3, d4, d5⟩, f0, f1, f2, f3, f4, f5⟩ := box6 H.out.1
  clear h0 h1 hk hk1
  have e : (0#256 ||| (1#256 <<< c)) = putN 0#256 c 1 := rfl
  rw [e]
  clear e
  unfold set4
  generalize hX : putN 0#256 c 1 = X at *
  have HX := Lib.hid hX
  clear hX
  simp only [wd_eq]
  go_wp2_with fail
  refine bodyPost_ret (v := re6 1 X (.slice none 0 0)) ?_ rfl ⟨by rw [HX.out], ?_⟩
  · simp [results, Try.results58, go_sem, re6, wd_eq, d0, d1, d2, d3, d4, d5]
  · exact (((((H.out.2.setCell (Nat.le_refl _) _).setCell (Nat.le_refl _) _).setCell (Nat.le_refl _) _).setCell (Nat.le_refl _) _).setCell (Nat.le_refl _) _).setCell (Nat.le_refl _) _
end Go.Proofs.Ytdbffbdpofodmaa
