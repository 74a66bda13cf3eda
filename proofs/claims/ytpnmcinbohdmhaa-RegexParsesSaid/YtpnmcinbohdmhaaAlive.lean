/-
  The examples of the document run as it says. Conditions: none.
-/
import Derived.Test.YtpnmcinbohdmhaaParse
set_option linter.unusedSimpArgs false
namespace Go.Proofs.Ytpnmcinbohdmhaa
open Go Go.RowKit Kit
theorem has4 (x : BitVec 256) (c : Nat) (hc : c ≤ 255) (w : World) : Calls Try.prog 14 #[.agg #[.int .u64 (wdN x 0), .int .u64 (wdN x 1), .int .u64 (wdN x 2), .int .u64 (wdN x 3)], .int .u8 c] w fun e w' => e = .returned (.bool (x.getLsbD c)) ∧ Kept w w' := Has_any x c hc w
def Re.op : Re → Nat | .mk o _ _ => o
def Re.set : Re → BitVec 256 | .mk _ x _ => x
theorem Kit.ReAt.inv {S : Nat → Prop} {w : World} {u : Value} {x : Re} (h : ReAt S w u x) : ∃ A n cap, u = re6 x.op x.set (.slice A n cap) := by
  cases h with
  | mk op x kids A cap vs h1 h2 hc hk => exact ⟨_, _, _, rfl⟩
def exA : Re := (parseP ⟨#[97]⟩).1
def exB : Re := (parseP ⟨#[91, 98, 45, 100, 93]⟩).1
theorem exA_eq : (parseP ⟨#[97]⟩).2 = (1, 0) ∧ exA.op = 1 ∧ exA.set.getLsbD 97 = true := by decide +kernel
theorem exB_eq : (parseP ⟨#[91, 98, 45, 100, 93]⟩).2 = (5, 0) ∧ exB.set.getLsbD 99 = true ∧ exB.set.getLsbD 97 = false := by decide +kernel
set_option maxHeartbeats 2000000 in
theorem alive_any (w : World) : Calls Try.prog 9 #[] w fun e w' => e = .returned (.bool true) ∧ Kept w w' := by
  have HA := Lib.hid exA_eq
  have HB := Lib.hid exB_eq
  go_enter Try.func9, Try.ntmps9
  go_wp2_with fail
  refine (Parse_any ⟨#[97]⟩ w).mono ?_
  rintro e w1 ⟨u, rfl, hx, hk1⟩
  obtain ⟨A, n, p, rfl⟩ := hx.inv
  rw [HA.out.1]
  rw [show (parseP ⟨#[97]⟩).1 = exA from rfl]
  rw [HA.out.2.1]
  have hsa := HA.out.2.2
  generalize exA.set = X at hsa ⊢
  have HX := Lib.hid hsa
  clear hx hsa
  simp only [re6_form]
  go_wp2_with fail
  obtain ⟨h1, hk2⟩ := alloc1 w1 (.cells #[.int .i64 (1 : Nat), .int .u64 (wdN X 0), .int .u64 (wdN X 1), .int .u64 (wdN X 2), .int .u64 (wdN X 3), .slice A n p] 27)
  generalize w1.alloc _ = w2 at *
  have H := Lib.hid (And.intro h1 (hk1.trans hk2))
  clear h1 hk1 hk2
  refine (Parse_any ⟨#[91, 98, 45, 100, 93]⟩ w2).mono ?_
  rintro e w3 ⟨u, rfl, hx, hk3⟩
  obtain ⟨A2, n2, p2, rfl⟩ := hx.inv
  rw [HB.out.1]
  rw [show (parseP ⟨#[91, 98, 45, 100, 93]⟩).1 = exB from rfl]
  have hsb := HB.out.2
  generalize exB.set = Y at hsb ⊢
  generalize exB.op = o2
  have HY := Lib.hid hsb
  replace H := Lib.hid (And.intro (hk3.blk H.out.1) (H.out.2.trans hk3))
  clear hx hsb hk3
  simp only [re6_form]
  go_wp2_with fail
  obtain ⟨h1, hk2⟩ := alloc1 w3 (.cells #[.int .i64 o2, .int .u64 (wdN Y 0), .int .u64 (wdN Y 1), .int .u64 (wdN Y 2), .int .u64 (wdN Y 3), .slice A2 n2 p2] 27)
  generalize w3.alloc _ = w4 at *
  replace H := Lib.hid (And.intro (hk2.blk H.out.1) (And.intro h1 (H.out.2.trans hk2)))
  clear h1 hk2
  refine (num_any _ _).mono ?_
  rintro e w5 ⟨rfl, rfl⟩
  obtain ⟨⟨a0, a1, a2, a3, a4, a5⟩, -⟩ := box6 H.out.1
  go_wp2_with fail
  refine (has4 X 97 (by decide) w4).mono ?_
  rintro e w5 ⟨rfl, hk⟩
  rw [HX.out]
  replace H := Lib.hid (And.intro (hk.blk H.out.1) (And.intro (hk.blk H.out.2.1) (H.out.2.2.trans hk)))
  clear hk a0 a1 a2 a3 a4 a5
  go_wp2_with fail
  refine (num_any _ _).mono ?_
  rintro e w6 ⟨rfl, rfl⟩
  obtain ⟨⟨b0, b1, b2, b3, b4, b5⟩, -⟩ := box6 H.out.2.1
  go_wp2_with fail
  refine (has4 Y 99 (by decide) w5).mono ?_
  rintro e w6 ⟨rfl, hk⟩
  rw [HY.out.1]
  replace H := Lib.hid (And.intro (hk.blk H.out.1) (And.intro (hk.blk H.out.2.1) (H.out.2.2.trans hk)))
  clear hk b0 b1 b2 b3 b4 b5
  obtain ⟨⟨b0, b1, b2, b3, b4, b5⟩, -⟩ := box6 H.out.2.1
  go_wp2_with fail
  refine (has4 Y 97 (by decide) w6).mono ?_
  rintro e w7 ⟨rfl, hk⟩
  rw [HY.out.2]
  replace H := Lib.hid (H.out.2.2.trans hk)
  clear hk b0 b1 b2 b3 b4 b5
  go_wp2_with fail
  go_ret
  exact ⟨rfl, H.out⟩
end Go.Proofs.Ytpnmcinbohdmhaa
