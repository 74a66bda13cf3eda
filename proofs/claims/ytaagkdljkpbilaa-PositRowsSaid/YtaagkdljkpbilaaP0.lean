/-
  Sets of places as bits of three words. Conditions: none.
-/
import Derived.Test.YtaagkdljkpbilaaS9
import Derived.Test.YtaagkdljkpbilaaLitK
import Derived.Test.YtaagkdljkpbilaaSw
import Derived.Test.YtaagkdljkpbilaaBx
set_option linter.unusedSimpArgs false
set_option linter.unusedVariables false
namespace Go.Proofs.Ytaagkdljkpbilaa.K
open Go Ev
set_option maxRecDepth 100000
set_option maxHeartbeats 4000000

theorem wrap_u64 {n : Nat} (h : n < 18446744073709551616) : wrapF .u64 (n : Int) = (n : Int) := by
  rw [wrapF_eq]
  simp only [IntKind.wrap, IntKind.bits, IntKind.signed]
  simp
  omega
theorem fdiv_nat (a b : Nat) : (a : Int).fdiv (b : Int) = ((a / b : Nat) : Int) := by
  rw [Int.fdiv_eq_ediv_of_nonneg _ (by omega)]
  rfl
theorem shr_i64 (i : Nat) : binV .shr (.i .i64 (i : Int)) (.i .u64 6) = some (.i .i64 ((i / 64 : Nat) : Int)) := by
  show (bif decide ((6 : Int) < 0) then none else some (MV.i .i64 ((i : Int).fdiv ((2 ^ (min (6 : Int).toNat 64) : Nat) : Int)))) = _
  rw [show ((2 ^ (min (6 : Int).toNat 64) : Nat)) = 64 from by decide, fdiv_nat]
  rfl
theorem shr_u64 (w s : Nat) (h : s < 64) : binV .shr (.i .u64 (w : Int)) (.i .i64 (s : Int)) = some (.i .u64 ((w / 2 ^ s : Nat) : Int)) := by
  show (bif decide ((s : Int) < 0) then none else some (MV.i .u64 ((w : Int).fdiv ((2 ^ (min (s : Int).toNat 64) : Nat) : Int)))) = _
  rw [decide_eq_false (by omega), cond_false, show min (s : Int).toNat 64 = s from by omega, fdiv_nat]
theorem shl_u64 (s : Nat) (h : s < 64) : binV .shl (.i .u64 1) (.i .i64 (s : Int)) = some (.i .u64 ((2 ^ s : Nat) : Int)) := by
  show (bif decide ((s : Int) < 0) then none else some (MV.i .u64 (wrapF .u64 (1 * ((2 ^ (min (s : Int).toNat 64) : Nat) : Int))))) = _
  rw [decide_eq_false (by omega), cond_false, show min (s : Int).toNat 64 = s from by omega, Int.one_mul, wrap_u64]
  exact Nat.lt_of_lt_of_le (Nat.pow_lt_pow_right (by omega) h) (by decide)
theorem and_lt {a b n : Nat} (h : b < n) : a &&& b < n := Nat.lt_of_le_of_lt Nat.and_le_right h
theorem bits_u64 {a b : Nat} (ha : a < 18446744073709551616) (hb : b < 18446744073709551616) : bitsF .and .u64 (a : Int) (b : Int) = ((a &&& b : Nat) : Int) ∧ bitsF .or .u64 (a : Int) (b : Int) = ((a ||| b : Nat) : Int) := by
  have e1 : (BitVec.ofInt IntKind.u64.bits (a : Int)).toNat = a := by
    rw [BitVec.ofInt_natCast, BitVec.toNat_ofNat]; exact Nat.mod_eq_of_lt ha
  have e2 : (BitVec.ofInt IntKind.u64.bits (b : Int)).toNat = b := by
    rw [BitVec.ofInt_natCast, BitVec.toNat_ofNat]; exact Nat.mod_eq_of_lt hb
  refine ⟨?_, ?_⟩
  · show wrapF .u64 (((BitVec.ofInt IntKind.u64.bits (a : Int)) &&& (BitVec.ofInt IntKind.u64.bits (b : Int))).toNat : Int) = _
    rw [BitVec.toNat_and, e1, e2]
    exact wrap_u64 (and_lt hb)
  · show wrapF .u64 (((BitVec.ofInt IntKind.u64.bits (a : Int)) ||| (BitVec.ofInt IntKind.u64.bits (b : Int))).toNat : Int) = _
    rw [BitVec.toNat_or, e1, e2]
    exact wrap_u64 (Nat.or_lt_two_pow (n := 64) ha hb)
theorem and_u64 {a b : Nat} (ha : a < 18446744073709551616) (hb : b < 18446744073709551616) : binV .and (.i .u64 (a : Int)) (.i .u64 (b : Int)) = some (.i .u64 ((a &&& b : Nat) : Int)) := by
  show (bif (IntKind.u64 == IntKind.u64) then some (MV.i .u64 (bitsF .and .u64 a b)) else none) = _
  rw [(bits_u64 ha hb).1]
  rfl
theorem or_u64 {a b : Nat} (ha : a < 18446744073709551616) (hb : b < 18446744073709551616) : binV .or (.i .u64 (a : Int)) (.i .u64 (b : Int)) = some (.i .u64 ((a ||| b : Nat) : Int)) := by
  show (bif (IntKind.u64 == IntKind.u64) then some (MV.i .u64 (bitsF .or .u64 a b)) else none) = _
  rw [(bits_u64 ha hb).2]
  rfl
theorem and63 {i : Nat} (h : i < 1000000) : binV .and (.i .i64 (i : Int)) (.i .i64 63) = some (.i .i64 ((i % 64 : Nat) : Int)) := by
  have e1 : (BitVec.ofInt IntKind.i64.bits (i : Int)).toNat = i := by
    rw [BitVec.ofInt_natCast, BitVec.toNat_ofNat]; exact Nat.mod_eq_of_lt (Nat.lt_of_lt_of_le h (by decide))
  have e2 : (BitVec.ofInt IntKind.i64.bits ((63 : Nat) : Int)).toNat = 63 := by
    rw [BitVec.ofInt_natCast, BitVec.toNat_ofNat]; rfl
  show (bif (IntKind.i64 == IntKind.i64) then some (MV.i .i64 (wrapF .i64 (((BitVec.ofInt IntKind.i64.bits (i : Int)) &&& (BitVec.ofInt IntKind.i64.bits ((63 : Nat) : Int))).toNat : Int))) else none) = _
  rw [BitVec.toNat_and, e1, e2]
  have : i &&& 63 = i % 64 := Nat.and_two_pow_sub_one_eq_mod i 6
  rw [this, wrap_in (by omega) (by omega)]
  rfl
/-- One of the words. -/
def wd (N k : Nat) : Nat := (N >>> (64 * k)) % 2 ^ 64
theorem wd_lt (N k : Nat) : wd N k < 18446744073709551616 := Nat.mod_lt _ (by decide)
def plc (N : Nat) : List MV := [.i .u64 ((wd N 0 : Nat) : Int), .i .u64 ((wd N 1 : Nat) : Int), .i .u64 ((wd N 2 : Nat) : Int)]
theorem wd_bit (N k j : Nat) : (wd N k).testBit j = (decide (j < 64) && N.testBit (64 * k + j)) := by
  unfold wd
  rw [Nat.testBit_mod_two_pow, Nat.testBit_shiftRight]
theorem wd_or (N N' k : Nat) : wd N k ||| wd N' k = wd (N ||| N') k := Nat.eq_of_testBit_eq fun j => by
  rw [Nat.testBit_or, wd_bit, wd_bit, wd_bit, Nat.testBit_or, Bool.and_or_distrib_left]
theorem wd_add (N i k : Nat) : wd (N ||| 2 ^ i) k = if k = i / 64 then wd N k ||| 2 ^ (i % 64) else wd N k := Nat.eq_of_testBit_eq fun j => by
  rw [wd_bit, Nat.testBit_or, Nat.testBit_two_pow]
  split
  · rename_i e
    rw [Nat.testBit_or, wd_bit, Nat.testBit_two_pow]
    by_cases hj : j < 64
    · rw [decide_eq_true hj, Bool.true_and, Bool.true_and]
      congr 1
      rw [decide_eq_decide]
      omega
    · rw [decide_eq_false hj, Bool.false_and, Bool.false_and, Bool.false_or]
      exact (decide_eq_false (by omega)).symm
  · rename_i e
    rw [wd_bit]
    by_cases hj : j < 64
    · rw [decide_eq_true hj, Bool.true_and, Bool.true_and, decide_eq_false (by omega), Bool.or_false]
    · rw [decide_eq_false hj, Bool.false_and, Bool.false_and]
theorem wd_has (N i : Nat) : decide ((((wd N (i / 64) / 2 ^ (i % 64)) &&& 1 : Nat) : Int) = 1) = N.testBit i := by
  have h := wd_bit N (i / 64) (i % 64)
  rw [decide_eq_true (by omega), Bool.true_and, show 64 * (i / 64) + i % 64 = i from by omega, Nat.testBit_eq_decide_div_mod_eq] at h
  rw [← h, Nat.and_one_is_mod, decide_eq_decide]
  omega
theorem plc_at {N k : Nat} (h : k < 3) : (plc N)[k]? = some (.i .u64 ((wd N k : Nat) : Int)) := by
  match k, h with
  | 0, _ => rfl
  | 1, _ => rfl
  | 2, _ => rfl
end Go.Proofs.Ytaagkdljkpbilaa.K
