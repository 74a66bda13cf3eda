/-
  The words of a set of bytes, bit by bit: put, turned over, asked.
-/
import Derived.Test.YtdbffbdpofodmaaMem
import Derived.Laws.Bits64b
namespace Go.Proofs.Ytdbffbdpofodmaa.Kit
open Go Go.RowKit
def wdN (x : BitVec 256) (q : Nat) : Nat := (x >>> (64 * q)).toNat % 18446744073709551616
theorem wd_eq (x : BitVec 256) (q : Nat) : wd x q = .int .u64 (wdN x q : Int) := rfl
theorem wdN_lt (x : BitVec 256) (q : Nat) : wdN x q < 18446744073709551616 := Nat.mod_lt _ (by decide)
theorem wdN_bit (x : BitVec 256) (q i : Nat) : (wdN x q).testBit i = (decide (i < 64) && x.getLsbD (64 * q + i)) := by
  unfold wdN
  rw [show (18446744073709551616 : Nat) = 2 ^ 64 from rfl, Nat.testBit_mod_two_pow]
  congr 1
  rw [← BitVec.getLsbD]
  simp [BitVec.getLsbD_ushiftRight]
theorem bit_lt {c : Nat} (hc : c < 256) (x : BitVec 256) (i : Nat) : (x ||| (1#256 <<< c)).getLsbD i = (x.getLsbD i || decide (i = c)) := by
  rw [BitVec.getLsbD_or, BitVec.getLsbD_shiftLeft, BitVec.getLsbD_one]
  by_cases h : i = c
  · subst h; simp [hc]
  · by_cases h2 : i < c
    · simp [h, h2]
    · have : i - c ≠ 0 := by omega
      simp [h, this]
theorem wdN_put (x : BitVec 256) {c : Nat} (hc : c < 256) (q : Nat) : wdN (x ||| (1#256 <<< c)) q = if q = c / 64 then wdN x q ||| 2 ^ (c % 64) else wdN x q := by
  apply Nat.eq_of_testBit_eq
  intro i
  rw [wdN_bit, bit_lt hc]
  split
  · rename_i h
    rw [Nat.testBit_or, wdN_bit, Nat.testBit_two_pow]
    by_cases hi : i < 64
    · have : (64 * q + i = c) = (c % 64 = i) := by apply propext; omega
      simp [hi, this]
    · have : ¬ c % 64 = i := by omega
      simp [hi, this]
  · rename_i h
    rw [wdN_bit]
    by_cases hi : i < 64
    · have : ¬ 64 * q + i = c := by omega
      simp [this]
    · simp [hi]
theorem wdN_not (x : BitVec 256) {q : Nat} (hq : q < 4) : wdN (~~~ x) q = 18446744073709551615 - wdN x q := by
  have h : 18446744073709551615 - wdN x q = 2 ^ 64 - (wdN x q + 1) := by omega
  rw [h]
  apply Nat.eq_of_testBit_eq
  intro i
  rw [Nat.testBit_two_pow_sub_succ (by have := wdN_lt x q; omega), wdN_bit, wdN_bit, BitVec.getLsbD_not]
  by_cases hi : i < 64
  · have : 64 * q + i < 256 := by omega
    simp [hi, this]
  · simp [hi]
/-- The bit of a byte. -/
theorem wdN_has (x : BitVec 256) (c : Nat) : wdN x (c / 64) / 2 ^ (c % 64) % 2 = if x.getLsbD c then 1 else 0 := by
  have h := wdN_bit x (c / 64) (c % 64)
  rw [show 64 * (c / 64) + c % 64 = c from by omega] at h
  have : c % 64 < 64 := by omega
  simp only [this, decide_true, Bool.true_and] at h
  rw [Nat.testBit_eq_decide_div_mod_eq] at h
  by_cases hb : x.getLsbD c = true
  · rw [hb] at h ⊢; simp at h; rw [h]; simp
  · simp only [Bool.not_eq_true] at hb
    rw [hb] at h ⊢; simp at h; simp; omega
theorem and63_u8 (c : Nat) (h : c < 256) : bits .and .u8 (c : Int) 63 = ((c % 64 : Nat) : Int) := by
  have : ∀ c : Fin 256, bits .and .u8 ((c.val : Nat) : Int) 63 = ((c.val % 64 : Nat) : Int) := by decide +kernel
  exact this ⟨c, h⟩
theorem shl_w (n : Nat) (h : n < 64) : IntKind.u64.wrap (2 ^ min n 64) = ((2 ^ n : Nat) : Int) := by
  have h2 : min n 64 = n := by omega
  have h3 : (2 : Nat) ^ n < 2 ^ 64 := Nat.pow_lt_pow_right (by decide) h
  rw [h2, IntKind.wrap_u64, show ((2 : Int) ^ n) = ((2 ^ n : Nat) : Int) from by simp]
  generalize (2 : Nat) ^ n = z at *
  omega
end Go.Proofs.Ytdbffbdpofodmaa.Kit
namespace Go.Proofs.Ytdbffbdpofodmaa.Kit
open Go Go.RowKit
theorem wd_zero (q : Nat) : wd 0#256 q = .int .u64 0 := by simp [wd]
theorem alloc2 (w : World) (o o' : Obj) : ((w.alloc o).alloc o').heap[w.heap.size]? = some o ∧ ((w.alloc o).alloc o').heap[w.heap.size + 1]? = some o' ∧ Kept w ((w.alloc o).alloc o') :=
  ⟨blk_old _ _ (blk_new _ _), by have := blk_new (w.alloc o) o'; rwa [World.size_alloc] at this, ((Kept.refl _).alloc _).alloc _⟩
end Go.Proofs.Ytdbffbdpofodmaa.Kit
