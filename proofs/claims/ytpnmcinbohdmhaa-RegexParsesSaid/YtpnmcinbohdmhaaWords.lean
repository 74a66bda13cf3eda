/-
  The words of a set of bytes, bit by bit: put, turned over, asked.
-/
import Derived.Test.YtpnmcinbohdmhaaMem
import Derived.Laws.Bits64b
namespace Go.Proofs.Ytpnmcinbohdmhaa.Kit
open Go Go.RowKit
def wdN (x : BitVec 256) (q : Nat) : Nat := (x >>> (64 * q)).toNat % 18446744073709551616
theorem wd_eq (x : BitVec 256) (q : Nat) : wd x q = .int .u64 (wdN x q : Int) := rfl
theorem wdN_lt (x : BitVec 256) (q : Nat) : wdN x q < 18446744073709551616 := Nat.mod_lt _ (by decide)
theorem wdN_bit (x : BitVec 256) (q i : Nat) : (wdN x q).testBit i = (decide (i < 64) && x.getLsbD (64 * q + i)) := by
  unfold wdN
  rw [show (18446744073709551616 : Nat) = 2 ^ 64 from rfl, Nat.testBit_mod_two_pow]
  congr 1
  rw [← BitVec.getLsbD]
  simp [BitVec.getLsbD_ushiftRight]
theorem bit_lt {c : Nat} (hc : c < 256) (x : BitVec 256) (i : Nat) : (x ||| (1#256 <<< c)).getLsbD i = (x.getLsbD i || decide (i = c)) := by
  rw [BitVec.getLsbD_or, BitVec.getLsbD_shiftLeft, BitVec.getLsbD_one]
  by_cases h : i = c
  · subst h; simp [hc]
  · by_cases h2 : i < c
    · simp [h, h2]
    · have : i - c ≠ 0 := by omega
      simp [h, this]
theorem wdN_put (x : BitVec 256) {c : Nat} (hc : c < 256) (q : Nat) : wdN (x ||| (1#256 <<< c)) q = if q = c / 64 then wdN x q ||| 2 ^ (c % 64) else wdN x q := by
  apply Nat.eq_of_testBit_eq
  intro i
  rw [wdN_bit, bit_lt hc]
  split
  · rename_i h
    rw [Nat.testBit_or, wdN_bit, Nat.testBit_two_pow]
    by_cases hi : i < 64
    · have : (64 * q + i = c) = (c % 64 = i) := by apply propext; omega
      simp [hi, this]
    · have : ¬ c % 64 = i := by omega
      simp [hi, this]
  · rename_i h
    rw [wdN_bit]
    by_cases hi : i < 64
    · have : ¬ 64 * q + i = c := by omega
      simp [this]
    · simp [hi]
theorem wdN_not (x : BitVec 256) {q : Nat} (hq : q < 4) : wdN (~~~ x) q = 18446744073709551615 - wdN x q := by
  have h : 18446744073709551615 - wdN x q = 2 ^ 64 - (wdN x q + 1) := by omega
  rw [h]
  apply Nat.eq_of_testBit_eq
  intro i
  rw [Nat.testBit_two_pow_sub_succ (by have := wdN_lt x q; omega), wdN_bit, wdN_bit, BitVec.getLsbD_not]
  by_cases hi : i < 64
  · have : 64 * q + i < 256 := by omega
    simp [hi, this]
  · simp [hi]
/-- The bit of a byte. -/
theorem wdN_has (x : BitVec 256) (c : Nat) : wdN x (c / 64) / 2 ^ (c % 64) % 2 = if x.getLsbD c then 1 else 0 := by
  have h := wdN_bit x (c / 64) (c % 64)
  rw [show 64 * (c / 64) + c % 64 = c from by omega] at h
  have : c % 64 < 64 := by omega
  simp only [this, decide_true, Bool.true_and] at h
  rw [Nat.testBit_eq_decide_div_mod_eq] at h
  by_cases hb : x.getLsbD c = true
  · rw [hb] at h ⊢; simp at h; rw [h]; simp
  · simp only [Bool.not_eq_true] at hb
    rw [hb] at h ⊢; simp at h; simp; omega
theorem putN_bit (x : BitVec 256) (a : Nat) : ∀ n : Nat, a + n ≤ 256 → ∀ i, (putN x a n).getLsbD i = (x.getLsbD i || decide (a ≤ i ∧ i < a + n))
  | 0, _, i => by
    have : decide (a ≤ i ∧ i < a + 0) = false := by simp
    rw [this]; simp [putN]
  | n + 1, h, i => by
    unfold putN
    rw [bit_lt (by omega), putN_bit x a n (by omega)]
    by_cases h1 : x.getLsbD i = true
    · simp [h1]
    · simp only [Bool.not_eq_true] at h1
      rw [h1]
      simp only [Bool.false_or]
      rw [Bool.eq_iff_iff]
      simp only [Bool.or_eq_true, decide_eq_true_eq]
      omega
theorem putR_bit (x : BitVec 256) (a b : UInt8) (i : Nat) : (putR x a b).getLsbD i = (x.getLsbD i || decide (a.toNat ≤ i ∧ i ≤ b.toNat)) := by
  have h1 := a.toNat_lt
  have h2 := b.toNat_lt
  unfold putR
  by_cases h : a.toNat ≤ b.toNat
  · rw [putN_bit _ _ _ (by omega)]
    congr 2
    apply propext
    omega
  · rw [show b.toNat + 1 - a.toNat = 0 from by omega]
    have : decide (a.toNat ≤ i ∧ i ≤ b.toNat) = false := by simp; omega
    rw [this]; simp [putN]
theorem single_bit (c : UInt8) (i : Nat) : (single c).getLsbD i = decide (i = c.toNat) := by
  unfold single
  rw [putR_bit, Bool.eq_iff_iff]
  simp only [BitVec.getLsbD_zero, Bool.false_or, decide_eq_true_eq]
  omega
theorem and63_i64 (c : Nat) (h : c < 256) : bits .and .i64 (c : Int) 63 = ((c % 64 : Nat) : Int) := by
  have : ∀ c : Fin 256, bits .and .i64 ((c.val : Nat) : Int) 63 = ((c.val % 64 : Nat) : Int) := by decide +kernel
  exact this ⟨c, h⟩
theorem and63_u8 (c : Nat) (h : c < 256) : bits .and .u8 (c : Int) 63 = ((c % 64 : Nat) : Int) := by
  have : ∀ c : Fin 256, bits .and .u8 ((c.val : Nat) : Int) 63 = ((c.val % 64 : Nat) : Int) := by decide +kernel
  exact this ⟨c, h⟩
theorem shl_one (k : IntKind) (n : Nat) (h : n < 64) (P : Program) (w : World) : (Op.shift .shl .u64 1 k (n : Int)).run P w = .ok (.int .u64 ((2 ^ n : Nat) : Int)) w := by
  have h1 : ¬ ((n : Int) < 0) := by omega
  have h2 : min n 64 = n := by omega
  have h3 : (2 : Nat) ^ n < 2 ^ 64 := Nat.pow_lt_pow_right (by decide) h
  unfold Op.shift
  rw [if_neg h1]
  simp only [Int.toNat_natCast, IntKind.bits, h2]
  rw [IntKind.wrap_u64]
  rw [show ((1 : Int) * 2 ^ n) = ((2 ^ n : Nat) : Int) from by simp]
  generalize (2 : Nat) ^ n = z at *
  rw [show (z : Int) % 18446744073709551616 = (z : Int) from by omega]
  rfl
theorem shr_any (k : IntKind) (x n : Nat) (h : n < 64) (P : Program) (w : World) : (Op.shift .shr .u64 (x : Int) k (n : Int)).run P w = .ok (.int .u64 ((x / 2 ^ n : Nat) : Int)) w := by
  have h1 : ¬ ((n : Int) < 0) := by omega
  have h2 : min n 64 = n := by omega
  unfold Op.shift
  rw [if_neg h1]
  simp only [Int.toNat_natCast, IntKind.bits, h2]
  rw [show ((2 : Int) ^ n) = ((2 ^ n : Nat) : Int) from by simp]
  generalize (2 : Nat) ^ n = z at *
  rw [Int.fdiv_eq_ediv_of_nonneg _ (by omega), ← Int.natCast_ediv]
  rfl
theorem shl_w (n : Nat) (h : n < 64) : IntKind.u64.wrap (2 ^ min n 64) = ((2 ^ n : Nat) : Int) := by
  have h2 : min n 64 = n := by omega
  have h3 : (2 : Nat) ^ n < 2 ^ 64 := Nat.pow_lt_pow_right (by decide) h
  rw [h2, IntKind.wrap_u64, show ((2 : Int) ^ n) = ((2 ^ n : Nat) : Int) from by simp]
  generalize (2 : Nat) ^ n = z at *
  omega
theorem size_setWd (cs : Array Value) (o : Nat) (x : BitVec 256) : (setWd cs o x).size = cs.size := by simp [setWd]
theorem setWd_get (cs : Array Value) (o : Nat) (x : BitVec 256) (ho : o + 4 ≤ cs.size) (q : Nat) (hq : q < 4) : (setWd cs o x)[o + q]? = some (wd x q) := by
  unfold setWd
  rcases (by omega : q = 0 ∨ q = 1 ∨ q = 2 ∨ q = 3) with rfl | rfl | rfl | rfl
  all_goals simp [Array.getElem?_setIfInBounds]
  all_goals omega
theorem setWd_put (cs : Array Value) (o : Nat) (x : BitVec 256) (ho : o + 4 ≤ cs.size) {c : Nat} (hc : c < 256) :
    (setWd cs o x).setIfInBounds (o + c / 64) (.int .u64 ((wdN x (c / 64) ||| 2 ^ (c % 64) : Nat) : Int)) = setWd cs o (x ||| (1#256 <<< c)) := by
  apply Array.ext_getElem?
  intro i
  have hq : c / 64 < 4 := by omega
  generalize hqq : c / 64 = q at *
  by_cases hi : o ≤ i ∧ i < o + 4
  · obtain ⟨j, rfl⟩ : ∃ j, i = o + j := ⟨i - o, by omega⟩
    rw [setWd_get _ _ _ ho j (by omega), wd_eq, wdN_put _ hc, hqq]
    by_cases e : q = j
    · subst e
      rw [Array.getElem?_setIfInBounds_self_of_lt (by rw [size_setWd]; omega), if_pos rfl]
    · rw [Array.getElem?_setIfInBounds_ne (by omega), setWd_get _ _ _ ho j (by omega), if_neg (fun h => e h.symm)]
      rfl
  · rw [Array.getElem?_setIfInBounds_ne (by omega)]
    unfold setWd
    simp [Array.getElem?_setIfInBounds]
    have e1 : ¬ o + 3 = i := by omega
    have e2 : ¬ o + 2 = i := by omega
    have e3 : ¬ o + 1 = i := by omega
    have e4 : ¬ o = i := by omega
    simp [e1, e2, e3, e4]
end Go.Proofs.Ytpnmcinbohdmhaa.Kit
namespace Go.Proofs.Ytpnmcinbohdmhaa.Kit
open Go Go.RowKit
theorem wd_zero (q : Nat) : wd 0#256 q = .int .u64 0 := by simp [wd]
theorem alloc1 (w : World) (o : Obj) : (w.alloc o).heap[w.heap.size]? = some o ∧ Kept w (w.alloc o) := ⟨blk_new _ _, (Kept.refl _).alloc _⟩
theorem alloc2 (w : World) (o o' : Obj) : ((w.alloc o).alloc o').heap[w.heap.size]? = some o ∧ ((w.alloc o).alloc o').heap[w.heap.size + 1]? = some o' ∧ Kept w ((w.alloc o).alloc o') :=
  ⟨blk_old _ _ (blk_new _ _), by have := blk_new (w.alloc o) o'; rwa [World.size_alloc] at this, ((Kept.refl _).alloc _).alloc _⟩
theorem set4_lt (x : BitVec 256) (q : Nat) : (0 : Int) ≤ wdN x q ∧ (wdN x q : Int) ≤ 18446744073709551615 := by have := wdN_lt x q; omega
end Go.Proofs.Ytpnmcinbohdmhaa.Kit
