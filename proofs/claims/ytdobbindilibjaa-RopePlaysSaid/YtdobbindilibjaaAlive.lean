/-
  The example of the document runs as it says; what the document's own Tall is, and that balanced trees are not higher.
-/
import Derived.Test.YtdobbindilibjaaRope
set_option linter.unusedSimpArgs false
namespace Go.Proofs.Ytdobbindilibjaa
open Go Go.RowKit Kit
theorem Kit.Kept.above {w w1 w2 : World} {m : Nat} (h : Kept w w1) (k : Gm m w1 w2) (hm : w.heap.size ≤ m) : Kept w w2 :=
  Below.grown h k.1 h.size (fun j e => by injection e with e; omega)
theorem conv_lit (w : World) (C : Array Value) (n c : Nat) : (convert 22 22 (.slice (some ⟨w.heap.size, 0, none⟩) n c)).run Try.prog (w.alloc (.cells C 5)) = .ok (.slice (some ⟨w.heap.size, 0, none⟩) n c) (w.alloc (.cells C 5 (C.size, C.size + 1))) :=
  Lib.run_convert_bytes_const w 22 5 C n c Try.underlying22 Try.underlying5
set_option maxHeartbeats 1000000 in
theorem alive_any (w : World) : Calls Try.prog 7 #[] w fun e w' => e = .returned (.bool true) ∧ Kept w w' := by
  have hcv := conv_lit
  go_enter Try.func7, Try.ntmps7
  go_wp2_with fail
  generalize hA : w.alloc _ = wa
  have h1 : Bs wa (.slice (some ⟨w.heap.size, 0, none⟩) 2 2) [97, 98] := by
    subst hA
    exact Bs.lit (l := [97, 98]) (blk_new w _) (by rfl) (by decide)
  have hk0 : Kept w wa := by subst hA; exact (Kept.refl _).alloc _
  clear hA
  refine (new_any [97, 98] (by decide) _ wa h1).mono ?_
  rintro e w1 ⟨u, m, rfl, h2, hm, k2⟩
  have H2 := Lib.hid h2
  obtain ⟨g, root, rfl, -⟩ := h2
  have K2 := Lib.hid (And.intro (hk0.trans k2) (Nat.le_trans hk0.size hm))
  clear k2 hm h1 hk0
  unfold ptr
  go_wp2_with fail
  have h3 : Bs (w1.alloc (.cells #[.int .u8 120] 5 (1, 2))) (.slice (some ⟨w1.heap.size, 0, none⟩) 1 1) [120] := Bs.lit (l := [120]) (blk_new w1 _) (by rfl) (by decide)
  refine (Splice_any _ [97, 98] m 1 0 _ [120] _ (H2.out.kept ((Kept.refl _).alloc _)) h3 (by decide) (by decide)).mono ?_
  rintro e w2 ⟨u2, rfl, h4, k4⟩
  have h4' : Rp w2 u2 [97, 120, 98] m := by
    have e : doL [97, 98] 1 0 [120] = [97, 120, 98] := by decide +kernel
    rw [e] at h4
    exact h4
  have H4 := Lib.hid h4'
  have K4 := Lib.hid (K2.out.1.alloc _ |>.above k4 K2.out.2)
  have H5 := Lib.hid ((H2.out.kept ((Kept.refl _).alloc _)).gm k4)
  obtain ⟨g2, root2, rfl, -⟩ := h4'
  clear h4 k4 h3
  unfold ptr
  go_wp2_with fail
  refine (Len_any _ [97, 98] m w2 H5.out).mono ?_
  rintro e w3 ⟨rfl, rfl⟩
  simp only [List.length_cons, List.length_nil]
  go_wp2_with fail
  refine (Slice_any _ [97, 120, 98] m 0 9 w2 H4.out (by decide)).mono ?_
  rintro e w3 ⟨u3, rfl, h6, k6⟩
  have h6' : Bs w3 u3 [97, 120, 98] := h6
  obtain ⟨A6, c6, rfl⟩ := h6'.form
  have hs := h6'.str (P := Try.prog) 22 9 5 Try.underlying22 Try.underlying5 Try.underlying9
  have K6 := Lib.hid (K4.out.trans k6)
  clear h6 h6' k6
  simp only [List.length_cons, List.length_nil] at hs ⊢
  go_wp2_with fail
  go_ret
  exact ⟨rfl, K6.out⟩
/-- How often a number can be halved till it is 0. -/
def bits (n : Nat) : Nat := if h : n = 0 then 0 else bits (n / 2) + 1
decreasing_by omega
theorem bits_pow : ∀ (j n : Nat), 2 ^ j ≤ n → j + 1 ≤ bits n
  | 0, n, h => by
    unfold bits
    rw [dif_neg (by simp at h; omega)]
    omega
  | j + 1, n, h => by
    unfold bits
    have h2 : 2 ^ j ≤ n / 2 := by rw [Nat.pow_succ] at h; omega
    have h3 : 1 ≤ 2 ^ j := Nat.one_le_two_pow
    rw [dif_neg (by omega)]
    have := bits_pow j (n / 2) h2
    omega
theorem bits_le : ∀ n : Nat, bits n ≤ n := fun n => by
  induction n using Nat.strongRecOn with
  | _ n ih =>
    unfold bits
    by_cases h : n = 0
    · simp [h]
    · rw [dif_neg h]
      have := ih (n / 2) (by omega)
      omega
theorem Kit.Tr.big : ∀ t : Tr, t.Ok → 2 ^ ((t.ht - 1) / 2) ≤ t.text.length
  | .leaf s, h => by simpa [Tr.ht, Tr.text] using h.1
  | .node l r, h => by
    have h1 := Tr.big l h.1
    have h2 := Tr.big r h.2.1
    have h3 := h.2.2.1
    have h4 := h.2.2.2
    have h5 := l.ht_pos
    have h6 := r.ht_pos
    simp only [Tr.ht, Tr.text, List.length_append]
    by_cases hc : max l.ht r.ht + 1 = 2
    · rw [hc]
      have := l.pos h.1
      simp
      omega
    · have e : (max l.ht r.ht + 1 - 1) / 2 = (max l.ht r.ht + 1 - 3) / 2 + 1 := by omega
      rw [e, Nat.pow_succ]
      have m1 : 2 ^ ((max l.ht r.ht + 1 - 3) / 2) ≤ 2 ^ ((l.ht - 1) / 2) := Nat.pow_le_pow_right (by omega) (by omega)
      have m2 : 2 ^ ((max l.ht r.ht + 1 - 3) / 2) ≤ 2 ^ ((r.ht - 1) / 2) := Nat.pow_le_pow_right (by omega) (by omega)
      omega
theorem high_ok (t : Tr) (h : t.Ok) : t.ht ≤ 3 + 2 * bits t.text.length := by
  have := bits_pow _ _ (t.big h)
  omega
set_option maxHeartbeats 1000000 in
theorem tall_any (n : Nat) (w : World) (hn : n ≤ 10000000000000) : Calls Try.prog 14 #[.int .i64 (n : Int)] w fun e w' => e = .returned (.int .i64 ((3 + 2 * bits n : Nat) : Int)) ∧ w = w' := by
  have hb := bits_le n
  go_enter Try.func14, Try.ntmps14
  go_wp2
  go_loop [0, 3] (fun u v => ∃ a b : Nat, u = .int .i64 (a : Int) ∧ v = .int .i64 (b : Int) ∧ a ≤ 10000000000000 ∧ b + 2 * bits a = 3 + 2 * bits n) (fun u _ => (intOf u).toNat)
  case atStart => exact ⟨n, 3, rfl, rfl, hn, rfl⟩
  case round =>
    obtain ⟨a, b, rfl, rfl, ha, hab⟩ := hrel
    have HA := Lib.hid hab
    have hb2 : b ≤ 30000000000003 := by omega
    clear hab hb
    by_cases h0 : a = 0
    · subst h0
      go_wp2_with fail
      go_ret
      refine ⟨?_, rfl⟩
      have := HA.out
      have e : bits 0 = 0 := by unfold bits; rfl
      rw [e] at this
      have e2 : (b : Int) = 3 + 2 * (bits n : Int) := by omega
      rw [← e2]
      rfl
    · have h1 : (0 : Int) < (a : Int) := by omega
      have h2 : (a : Int) > 0 := by omega
      have z1 : (b : Int) ≤ 30000000000003 := by omega
      have z2 : (0 : Int) ≤ b := by omega
      go_wp2_with fail
      go_round
      case rel =>
        refine ⟨a / 2, b + 2, by go_num, by go_num, by omega, ?_⟩
        have := HA.out
        conv at this => lhs; rw [show bits a = bits (a / 2) + 1 from by conv => lhs; unfold bits; rw [dif_neg h0]]
        omega
      case measure => simp [intOf]; omega
end Go.Proofs.Ytdobbindilibjaa
