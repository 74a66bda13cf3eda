/-
  For every number the law RegexDeep returns true. Conditions: none.
-/
import Derived.Test.YtpnmcinbohdmhaaAlive
set_option linter.unusedSimpArgs false
namespace Go.Proofs.Ytpnmcinbohdmhaa
open Go Go.RowKit Kit
def brk (n : Nat) : ByteArray := ⟨(List.replicate n (40 : UInt8) ++ List.replicate n (41 : UInt8)).toArray⟩
def aas (n : Nat) : ByteArray := ⟨(List.replicate n (97 : UInt8)).toArray⟩
theorem brk_zero : brk 0 = ⟨#[]⟩ := rfl
theorem aas_zero : aas 0 = ⟨#[]⟩ := rfl
theorem brk_succ (n : Nat) : (⟨#[40]⟩ : ByteArray) ++ brk n ++ ⟨#[41]⟩ = brk (n + 1) := by
  apply ByteArray.ext
  simp only [ByteArray.data_append, brk]
  apply Array.toList_inj.1
  simp [List.replicate_succ, List.append_assoc]
  exact (List.replicate_succ' (n := n) (a := (41 : UInt8))).symm ▸ rfl
theorem aas_succ (n : Nat) : aas n ++ ⟨#[97]⟩ = aas (n + 1) := by
  apply ByteArray.ext
  simp only [ByteArray.data_append, aas]
  apply Array.toList_inj.1
  simp [List.replicate_succ']
theorem brk_size (n : Nat) : (brk n).size = 2 * n := by
  show (brk n).data.size = _
  simp [brk]; omega
theorem aas_size (n : Nat) : (aas n).size = n := by
  show (aas n).data.size = _
  simp [aas]
theorem brk_parse : ∀ n : Fin 41, (parseP (brk n.val)).2.2 = (if n.val ≤ 20 then 0 else 4) ∧ (20 < n.val → (parseP (brk n.val)).2.1 = 20) := by decide +kernel
theorem aas_at {n k : Nat} (h : k < n) : byteAt (aas n) k = some 97 := by
  unfold byteAt aas
  simp [h]
theorem aas_end {n k : Nat} (h : ¬ k < n) : byteAt (aas n) k = none := byteAt_none (by rw [aas_size]; exact h)
theorem aas_rep {n : Nat} (x : Re) (k : Nat) : repL (aas n) x k = (x, k) := by
  by_cases h : k < n
  · rw [repL_in (aas_at h)]; rfl
  · exact repL_out (aas_end h) x
theorem aas_repP (g : Nat → Res Re) {n k : Nat} (h : k < n) : repP g (aas n) k = .ok (.mk 1 (single 97) []) (k + 1) := by
  have hl : litB (aas n) k = k := by unfold litB; rw [aas_at h]; rfl
  have hp : litP (aas n) k = .ok 97 (k + 1) := by unfold litP; rw [hl, aas_at h]
  have ha : atomP g (aas n) k = .ok (.mk 1 (single 97) []) (k + 1) := by
    unfold atomP
    rw [aas_at h]
    simp only [hp]
    rfl
  unfold repP
  rw [ha]
  simp only [aas_rep]
theorem aas_seq (g : Nat → Res Re) (n : Nat) : ∀ (m k : Nat) (acc : List Re), n - k ≤ m → k ≤ n → ∃ x, seqL g (aas n) acc k = .ok x n := by
  intro m
  induction m with
  | zero =>
    intro k acc hm hk
    have : k = n := by omega
    subst this
    exact ⟨_, seqL_off (by unfold goesOn; simp [aas_size])⟩
  | succ m ih =>
    intro k acc hm hk
    by_cases h : k < n
    · rw [seqL_on (by unfold goesOn; rw [aas_at h, aas_size]; simp [h]), aas_repP g h]
      simp only
      rw [dif_pos (by omega)]
      exact ih (k + 1) _ (by omega) (by omega)
    · have : k = n := by omega
      subst this
      exact ⟨_, seqL_off (by unfold goesOn; simp [aas_size])⟩
theorem aas_parse (n : Nat) : (parseP (aas n)).2 = (if n ≤ 200 then (n, 0) else (0, 3)) := by
  unfold parseP
  rw [aas_size]
  by_cases h : 200 < n
  · rw [if_pos h, if_neg (by omega)]
  · rw [if_neg h, if_pos (by omega)]
    obtain ⟨x, hx⟩ := aas_seq (grp (aas n) 20) n n 0 [] (by omega) (by omega)
    rw [altL_eq, hx]
    simp only [aas_end (Nat.lt_irrefl n)]
    simp
set_option maxHeartbeats 4000000 in
theorem lawDeep_out (z : Int) (hz : z < 0 ∨ 250 < z) (w : World) : Calls Try.prog 6 #[.int .i64 z] w fun e w' => e = .returned (.bool true) ∧ Kept w w' := by
  rcases hz with h1 | h1
  all_goals
    go_enter Try.func6, Try.ntmps6
    go_wp2_with fail
    refine (alive_any w).mono ?_
    rintro e w1 ⟨rfl, hk⟩
    have HK := Lib.hid hk
    clear hk
    go_wp2_with fail
    go_ret
    exact ⟨rfl, HK.out⟩
set_option maxHeartbeats 4000000 in
theorem lawDeep_A (n : Nat) (hn : n ≤ 20) (w : World) : Calls Try.prog 6 #[.int .i64 n] w fun e w' => e = .returned (.bool true) ∧ Kept w w' := by
  have d1 : decide ((n : Int) < 0) = false := by simp
  have d2 : decide ((250 : Int) < n) = false := by simp; omega
  have n0 : ¬ (n : Int) < 0 := by omega
  have n250 : ¬ (250 : Int) < n := by omega
  have i40 : (n : Int) ≤ 40 := by omega
  have i20 : (n : Int) ≤ 20 := by omega
  have j20 : ¬ (20 : Int) < n := by omega
  have i200 : ¬ (200 : Int) < n := by omega
  have HP := Lib.hid (aas_parse n)
  have HQ := Lib.hid (brk_parse ⟨n, by omega⟩)
  go_enter Try.func6, Try.ntmps6
  go_wp2_with fail
  refine (alive_any w).mono ?_
  rintro e w1 ⟨rfl, hk⟩
  have HK := Lib.hid hk
  clear hk
  go_wp2_with fail
  go_loop [4, 5] (fun s i => ∃ k : Nat, i = .int .i64 k ∧ s = .string (brk k) ∧ k ≤ n) (fun _ i => n - (intOf i).toNat)
  case atStart => exact ⟨0, rfl, rfl, by omega⟩
  case round =>
    obtain ⟨k, rfl, rfl, hkn⟩ := hrel
    by_cases hgo : k < n
    · have hk : k ≤ 40 := by omega
      have HS := Lib.hid (brk_succ k)
      have z1 : ¬ 9223372036854775807 < 1 + (brk k).size := by rw [brk_size]; omega
      have z2 : ¬ 9223372036854775807 < 1 + (brk k).size + 1 := by rw [brk_size]; omega
      go_wp2_with fail
      go_round
      case rel => exact ⟨k + 1, by go_num, by rw [HS.out], by omega⟩
      case measure => simp [intOf]; omega
    · obtain rfl : k = n := by omega
      clear hgo hkn
      go_wp2_with fail
      go_loop [6, 7] (fun s i => ∃ j : Nat, i = .int .i64 j ∧ s = .string (aas j) ∧ j ≤ k) (fun _ i => k - (intOf i).toNat)
      case atStart => exact ⟨0, rfl, rfl, by omega⟩
      case round =>
        obtain ⟨j, rfl, rfl, hjn⟩ := hrel
        by_cases hgo : j < k
        · have HS := Lib.hid (aas_succ j)
          have z1 : ¬ 9223372036854775807 < (aas j).size + 1 := by rw [aas_size]; omega
          go_wp2_with fail
          go_round
          case rel => exact ⟨j + 1, by go_num, by rw [HS.out], by omega⟩
          case measure => simp [intOf]; omega
        · obtain rfl : j = k := by omega
          clear hgo hjn
          go_wp2_with fail
          refine (Parse_any (brk j) w1).mono ?_
          rintro e w3 ⟨u, rfl, hx, hk⟩
          obtain ⟨A1, m1, p1, rfl⟩ := hx.inv
          generalize (parseP (brk j)).1.set = X1
          generalize (parseP (brk j)).1.op = o1
          rw [show (parseP (brk j)).2.2 = 0 from by rw [HQ.out.1, if_pos (by omega)]]
          generalize (parseP (brk j)).2.1 = a1
          replace HK := Lib.hid (HK.out.trans hk)
          clear hx hk
          simp only [re6_form]
          go_wp2_with fail
          obtain ⟨-, hk5⟩ := alloc1 w3 (.cells #[.int .i64 o1, .int .u64 (wdN X1 0), .int .u64 (wdN X1 1), .int .u64 (wdN X1 2), .int .u64 (wdN X1 3), .slice A1 m1 p1] 27)
          generalize w3.alloc _ = w4 at hk5 ⊢
          replace HK := Lib.hid (HK.out.trans hk5)
          clear hk5
          refine (Parse_any (aas j) w4).mono ?_
          rintro e w5 ⟨u, rfl, hx, hk⟩
          obtain ⟨A2, m2, p2, rfl⟩ := hx.inv
          generalize (parseP (aas j)).1.set = X2
          generalize (parseP (aas j)).1.op = o2
          rw [show (parseP (aas j)).2 = (j, 0) from by rw [HP.out, if_pos (by omega)]]
          replace HK := Lib.hid (HK.out.trans hk)
          clear hx hk
          simp only [re6_form]
          go_wp2_with ((go_at_call 13; refine (num_any _ _).mono ?_; rintro _ _ ⟨rfl, rfl⟩))
          go_ret
          exact ⟨rfl, HK.out.alloc _⟩
set_option maxHeartbeats 4000000 in
theorem lawDeep_B (n : Nat) (hn1 : 20 < n) (hn : n ≤ 40) (w : World) : Calls Try.prog 6 #[.int .i64 n] w fun e w' => e = .returned (.bool true) ∧ Kept w w' := by
  have d1 : decide ((n : Int) < 0) = false := by simp
  have d2 : decide ((250 : Int) < n) = false := by simp; omega
  have n0 : ¬ (n : Int) < 0 := by omega
  have n250 : ¬ (250 : Int) < n := by omega
  have i40 : (n : Int) ≤ 40 := by omega
  have i20 : ¬ (n : Int) ≤ 20 := by omega
  have j20 : (20 : Int) < n := by omega
  have i200 : ¬ (200 : Int) < n := by omega
  have HP := Lib.hid (aas_parse n)
  have HQ := Lib.hid (brk_parse ⟨n, by omega⟩)
  go_enter Try.func6, Try.ntmps6
  go_wp2_with fail
  refine (alive_any w).mono ?_
  rintro e w1 ⟨rfl, hk⟩
  have HK := Lib.hid hk
  clear hk
  go_wp2_with fail
  go_loop [4, 5] (fun s i => ∃ k : Nat, i = .int .i64 k ∧ s = .string (brk k) ∧ k ≤ n) (fun _ i => n - (intOf i).toNat)
  case atStart => exact ⟨0, rfl, rfl, by omega⟩
  case round =>
    obtain ⟨k, rfl, rfl, hkn⟩ := hrel
    by_cases hgo : k < n
    · have hk : k ≤ 40 := by omega
      have HS := Lib.hid (brk_succ k)
      have z1 : ¬ 9223372036854775807 < 1 + (brk k).size := by rw [brk_size]; omega
      have z2 : ¬ 9223372036854775807 < 1 + (brk k).size + 1 := by rw [brk_size]; omega
      go_wp2_with fail
      go_round
      case rel => exact ⟨k + 1, by go_num, by rw [HS.out], by omega⟩
      case measure => simp [intOf]; omega
    · obtain rfl : k = n := by omega
      clear hgo hkn
      go_wp2_with fail
      go_loop [6, 7] (fun s i => ∃ j : Nat, i = .int .i64 j ∧ s = .string (aas j) ∧ j ≤ k) (fun _ i => k - (intOf i).toNat)
      case atStart => exact ⟨0, rfl, rfl, by omega⟩
      case round =>
        obtain ⟨j, rfl, rfl, hjn⟩ := hrel
        by_cases hgo : j < k
        · have HS := Lib.hid (aas_succ j)
          have z1 : ¬ 9223372036854775807 < (aas j).size + 1 := by rw [aas_size]; omega
          go_wp2_with fail
          go_round
          case rel => exact ⟨j + 1, by go_num, by rw [HS.out], by omega⟩
          case measure => simp [intOf]; omega
        · obtain rfl : j = k := by omega
          clear hgo hjn
          go_wp2_with fail
          refine (Parse_any (brk j) w1).mono ?_
          rintro e w3 ⟨u, rfl, hx, hk⟩
          obtain ⟨A1, m1, p1, rfl⟩ := hx.inv
          generalize (parseP (brk j)).1.set = X1
          generalize (parseP (brk j)).1.op = o1
          rw [show (parseP (brk j)).2.2 = 4 from by rw [HQ.out.1, if_neg (by omega)], HQ.out.2 (by omega)]
          replace HK := Lib.hid (HK.out.trans hk)
          clear hx hk
          simp only [re6_form]
          go_wp2_with fail
          obtain ⟨-, hk5⟩ := alloc1 w3 (.cells #[.int .i64 o1, .int .u64 (wdN X1 0), .int .u64 (wdN X1 1), .int .u64 (wdN X1 2), .int .u64 (wdN X1 3), .slice A1 m1 p1] 27)
          generalize w3.alloc _ = w4 at hk5 ⊢
          replace HK := Lib.hid (HK.out.trans hk5)
          clear hk5
          refine (Parse_any (aas j) w4).mono ?_
          rintro e w5 ⟨u, rfl, hx, hk⟩
          obtain ⟨A2, m2, p2, rfl⟩ := hx.inv
          generalize (parseP (aas j)).1.set = X2
          generalize (parseP (aas j)).1.op = o2
          rw [show (parseP (aas j)).2 = (j, 0) from by rw [HP.out, if_pos (by omega)]]
          replace HK := Lib.hid (HK.out.trans hk)
          clear hx hk
          simp only [re6_form]
          go_wp2_with ((go_at_call 13; refine (num_any _ _).mono ?_; rintro _ _ ⟨rfl, rfl⟩))
          go_ret
          exact ⟨rfl, HK.out.alloc _⟩
set_option maxHeartbeats 4000000 in
theorem lawDeep_C (n : Nat) (hn1 : 40 < n) (hn : n ≤ 200) (w : World) : Calls Try.prog 6 #[.int .i64 n] w fun e w' => e = .returned (.bool true) ∧ Kept w w' := by
  have d1 : decide ((n : Int) < 0) = false := by simp
  have d2 : decide ((250 : Int) < n) = false := by simp; omega
  have n0 : ¬ (n : Int) < 0 := by omega
  have n250 : ¬ (250 : Int) < n := by omega
  have i40 : ¬ (n : Int) ≤ 40 := by omega
  have i20 : ¬ (n : Int) ≤ 20 := by omega
  have j20 : (20 : Int) < n := by omega
  have i200 : ¬ (200 : Int) < n := by omega
  have HP := Lib.hid (aas_parse n)
  go_enter Try.func6, Try.ntmps6
  go_wp2_with fail
  refine (alive_any w).mono ?_
  rintro e w1 ⟨rfl, hk⟩
  have HK := Lib.hid hk
  clear hk
  go_wp2_with fail
  go_loop [4, 5] (fun s i => i = .int .i64 0 ∧ s = .string ⟨#[]⟩) (fun _ i => 0)
  case atStart => exact ⟨rfl, rfl⟩
  case round =>
    obtain ⟨rfl, rfl⟩ := hrel
    by_cases hgo : True
    · clear hgo
      go_wp2_with fail
      go_loop [6, 7] (fun s i => ∃ j : Nat, i = .int .i64 j ∧ s = .string (aas j) ∧ j ≤ n) (fun _ i => n - (intOf i).toNat)
      case atStart => exact ⟨0, rfl, rfl, by omega⟩
      case round =>
        obtain ⟨j, rfl, rfl, hjn⟩ := hrel
        by_cases hgo : j < n
        · have HS := Lib.hid (aas_succ j)
          have z1 : ¬ 9223372036854775807 < (aas j).size + 1 := by rw [aas_size]; omega
          go_wp2_with fail
          go_round
          case rel => exact ⟨j + 1, by go_num, by rw [HS.out], by omega⟩
          case measure => simp [intOf]; omega
        · obtain rfl : j = n := by omega
          clear hgo hjn
          go_wp2_with fail
          refine (Parse_any ⟨#[]⟩ w1).mono ?_
          rintro e w3 ⟨u, rfl, hx, hk⟩
          obtain ⟨A1, m1, p1, rfl⟩ := hx.inv
          generalize (parseP ⟨#[]⟩).1.set = X1
          generalize (parseP ⟨#[]⟩).1.op = o1
          generalize (parseP ⟨#[]⟩).2.1 = a1
          generalize (parseP ⟨#[]⟩).2.2 = e1
          replace HK := Lib.hid (HK.out.trans hk)
          clear hx hk
          simp only [re6_form]
          go_wp2_with fail
          obtain ⟨-, hk5⟩ := alloc1 w3 (.cells #[.int .i64 o1, .int .u64 (wdN X1 0), .int .u64 (wdN X1 1), .int .u64 (wdN X1 2), .int .u64 (wdN X1 3), .slice A1 m1 p1] 27)
          generalize w3.alloc _ = w4 at hk5 ⊢
          replace HK := Lib.hid (HK.out.trans hk5)
          clear hk5
          refine (Parse_any (aas j) w4).mono ?_
          rintro e w5 ⟨u, rfl, hx, hk⟩
          obtain ⟨A2, m2, p2, rfl⟩ := hx.inv
          generalize (parseP (aas j)).1.set = X2
          generalize (parseP (aas j)).1.op = o2
          rw [show (parseP (aas j)).2 = (j, 0) from by rw [HP.out, if_pos (by omega)]]
          replace HK := Lib.hid (HK.out.trans hk)
          clear hx hk
          simp only [re6_form]
          go_wp2_with ((go_at_call 13; refine (num_any _ _).mono ?_; rintro _ _ ⟨rfl, rfl⟩))
          go_ret
          exact ⟨rfl, HK.out.alloc _⟩
    · exact absurd trivial hgo
set_option maxHeartbeats 4000000 in
theorem lawDeep_D (n : Nat) (hn1 : 200 < n) (hn : n ≤ 250) (w : World) : Calls Try.prog 6 #[.int .i64 n] w fun e w' => e = .returned (.bool true) ∧ Kept w w' := by
  have d1 : decide ((n : Int) < 0) = false := by simp
  have d2 : decide ((250 : Int) < n) = false := by simp; omega
  have n0 : ¬ (n : Int) < 0 := by omega
  have n250 : ¬ (250 : Int) < n := by omega
  have i40 : ¬ (n : Int) ≤ 40 := by omega
  have i20 : ¬ (n : Int) ≤ 20 := by omega
  have j20 : (20 : Int) < n := by omega
  have i200 : (200 : Int) < n := by omega
  have HP := Lib.hid (aas_parse n)
  go_enter Try.func6, Try.ntmps6
  go_wp2_with fail
  refine (alive_any w).mono ?_
  rintro e w1 ⟨rfl, hk⟩
  have HK := Lib.hid hk
  clear hk
  go_wp2_with fail
  go_loop [4, 5] (fun s i => i = .int .i64 0 ∧ s = .string ⟨#[]⟩) (fun _ i => 0)
  case atStart => exact ⟨rfl, rfl⟩
  case round =>
    obtain ⟨rfl, rfl⟩ := hrel
    by_cases hgo : True
    · clear hgo
      go_wp2_with fail
      go_loop [6, 7] (fun s i => ∃ j : Nat, i = .int .i64 j ∧ s = .string (aas j) ∧ j ≤ n) (fun _ i => n - (intOf i).toNat)
      case atStart => exact ⟨0, rfl, rfl, by omega⟩
      case round =>
        obtain ⟨j, rfl, rfl, hjn⟩ := hrel
        by_cases hgo : j < n
        · have HS := Lib.hid (aas_succ j)
          have z1 : ¬ 9223372036854775807 < (aas j).size + 1 := by rw [aas_size]; omega
          go_wp2_with fail
          go_round
          case rel => exact ⟨j + 1, by go_num, by rw [HS.out], by omega⟩
          case measure => simp [intOf]; omega
        · obtain rfl : j = n := by omega
          clear hgo hjn
          go_wp2_with fail
          refine (Parse_any ⟨#[]⟩ w1).mono ?_
          rintro e w3 ⟨u, rfl, hx, hk⟩
          obtain ⟨A1, m1, p1, rfl⟩ := hx.inv
          generalize (parseP ⟨#[]⟩).1.set = X1
          generalize (parseP ⟨#[]⟩).1.op = o1
          generalize (parseP ⟨#[]⟩).2.1 = a1
          generalize (parseP ⟨#[]⟩).2.2 = e1
          replace HK := Lib.hid (HK.out.trans hk)
          clear hx hk
          simp only [re6_form]
          go_wp2_with fail
          obtain ⟨-, hk5⟩ := alloc1 w3 (.cells #[.int .i64 o1, .int .u64 (wdN X1 0), .int .u64 (wdN X1 1), .int .u64 (wdN X1 2), .int .u64 (wdN X1 3), .slice A1 m1 p1] 27)
          generalize w3.alloc _ = w4 at hk5 ⊢
          replace HK := Lib.hid (HK.out.trans hk5)
          clear hk5
          refine (Parse_any (aas j) w4).mono ?_
          rintro e w5 ⟨u, rfl, hx, hk⟩
          obtain ⟨A2, m2, p2, rfl⟩ := hx.inv
          generalize (parseP (aas j)).1.set = X2
          generalize (parseP (aas j)).1.op = o2
          rw [show (parseP (aas j)).2 = (0, 3) from by rw [HP.out, if_neg (by omega)]]
          replace HK := Lib.hid (HK.out.trans hk)
          clear hx hk
          simp only [re6_form]
          go_wp2_with ((go_at_call 13; refine (num_any _ _).mono ?_; rintro _ _ ⟨rfl, rfl⟩))
          go_ret
          exact ⟨rfl, HK.out.alloc _⟩
    · exact absurd trivial hgo
theorem lawDeep_any (z : Int) (w : World) : Calls Try.prog 6 #[.int .i64 z] w fun e w' => e = .returned (.bool true) ∧ Kept w w' := by
  by_cases hz : z < 0 ∨ 250 < z
  · exact lawDeep_out z hz w
  · obtain ⟨n, rfl⟩ : ∃ n : Nat, z = n := ⟨z.toNat, by omega⟩
    by_cases h1 : n ≤ 20
    · exact lawDeep_A n h1 w
    by_cases h2 : n ≤ 40
    · exact lawDeep_B n (by omega) h2 w
    by_cases h3 : n ≤ 200
    · exact lawDeep_C n (by omega) h3 w
    · exact lawDeep_D n (by omega) (by omega) w
end Go.Proofs.Ytpnmcinbohdmhaa
