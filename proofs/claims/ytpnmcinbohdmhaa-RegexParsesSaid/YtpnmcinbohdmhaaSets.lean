/-
  What the small functions of package regex do on sets of bytes.
-/
import Derived.Test.YtpnmcinbohdmhaaWords
import Derived.RegionTactic
import Derived.ChangeAlike
import Derived.Deep.QuietTactic
import Derived.BigQuiet
import Derived.Deep.LoopGhost
set_option linter.unusedSimpArgs false
namespace Go.Proofs.Ytpnmcinbohdmhaa
open Go Go.RowKit Kit

set_option maxHeartbeats 2000000 in
theorem put_any (b o x y : Nat) (hx : x ≤ 255) (hy : y ≤ 255) (X : BitVec 256) (cs : Array Value) (t : TypeId) (w : World) (ho : o + 4 ≤ cs.size) (hb : w.heap[b]? = some (.cells (setWd cs o X) t (0, 0))) :
    Calls Try.prog 60 #[.pointer (some ⟨b, o, none⟩), .agg #[.int .u8 x, .int .u8 y]] w fun e w' => e = .returned (.tuple #[]) ∧ w'.heap[b]? = some (.cells (setWd cs o (putN X x (y + 1 - x))) t (0, 0)) ∧ Gr b w w' := by
  have hlt := blk_lt hb
  have HB := Lib.hid hb
  clear hb
  go_enter Try.func60, Try.ntmps60
  go_wp2
  go_loopw [4] (fun c wr => ∃ n : Nat, c = .int .i64 ((x + n : Nat) : Int) ∧ x + n ≤ 256 ∧ (n ≤ y + 1 - x) ∧ wr.heap[b]? = some (.cells (setWd cs o (putN X x n)) t (0, 0)) ∧ wr.heap[w.heap.size]? = some (.cells #[.int .u8 x, .int .u8 y] 74 (0, 0)) ∧ Gr b w wr) (fun c _ => (y + 1) - (intOf c).toNat)
  case atStart => exact ⟨0, rfl, by omega, by omega, blk_old _ _ HB.out, blk_new _ _, ((Kept.refl _).alloc _).gr b⟩
  case round =>
    obtain ⟨n, rfl, hn, hny, hb, hs, hg⟩ := hrel
    obtain ⟨⟨c0, c1⟩, -⟩ := box2 hs
    have HR := Lib.hid (And.intro hb (And.intro hs hg))
    clear hb hs hg
    generalize hc : x + n = c at *
    have HC := Lib.hid hc
    clear hc
    by_cases hle : c ≤ y
    · obtain ⟨q, hq⟩ : ∃ q, c / 64 = q := ⟨_, rfl⟩
      obtain ⟨m, hm⟩ : ∃ m, c % 64 = m := ⟨_, rfl⟩
      obtain ⟨p, hp⟩ : ∃ p, 2 ^ m = p := ⟨_, rfl⟩
      obtain ⟨v, hv⟩ : ∃ v, wdN (putN X x n) q = v := ⟨_, rfl⟩
      obtain ⟨z, hz⟩ : ∃ z, v ||| p = z := ⟨_, rfl⟩
      have hqi : (c : Int) / 64 = (q : Int) := by omega
      have hq0 : (0 : Int) ≤ q := by omega
      have hq4 : (q : Int) < 4 := by omega
      have hand : bits .and .i64 (c : Int) 63 = (m : Int) := by rw [← hm]; exact and63_i64 c (by omega)
      have hshl : IntKind.u64.wrap (2 ^ min m 64) = (p : Int) := by rw [← hp]; exact shl_w m (by omega)
      have hor : bits .or .u64 (v : Int) (p : Int) = (z : Int) := by
        rw [← hz]
        exact bits_or_u64_nat _ _ (by rw [← hv]; exact wdN_lt _ _) (by rw [← hp]; exact Nat.pow_lt_pow_right (n := 64) (by decide) (by omega))
      have H5 : Hid (wr.cell? ⟨b, o + q, none⟩ = some (.int .u64 (v : Int)) ∧ wr.frozen? ⟨b, o + q, none⟩ = false) := by
        refine Lib.hid ⟨?_, blk_free HR.out.1 _⟩
        rw [blk_cell HR.out.1, setWd_get _ _ _ ho q (by omega), wd_eq, hv]
      have HZ : Hid ((setWd cs o (putN X x n)).setIfInBounds (o + q) (.int .u64 (z : Int)) = setWd cs o (putN X x (n + 1))) := by
        refine Lib.hid ?_
        have := setWd_put cs o (putN X x n) ho (c := c) (by omega)
        rw [hq, hm, hv, hp, hz] at this
        rw [this]
        show _ = setWd cs o (putN X x n ||| (1#256 <<< (x + n)))
        rw [HC.out]
      clear hq hm hp hv hz
      have H5' := Lib.hid H5.out.1
      go_wp2
      refine wp_region_fin' (by simp only [List.dropLast_cons_cons, List.dropLast_singleton]; exact rfl) (by simp only [List.getLast?_cons_cons, List.getLast?_singleton]; exact rfl) Kept pre_kept [([(0, none)], none), ([(4, none)], none), ([(16, some 1)], none), ([(15, some 0)], none), ([(18, some 3), (17, some 2)], none), ([(19, some 4)], none), ([(4, none)], none), ([(21, some 6)], none), ([(22, some 7)], none), ([(20, some 5), (23, some 8)], none), ([(15, some 0)], none), ([(25, some 10), (17, some 2)], none), ([(26, some 11), (24, some 9)], none)] (by kernel_rfl) 27 rfl (by kernel_rfl) (by kernel_rfl) rfl ?_
      apply go_val pre_kept
      · rintro ρ wr ⟨hg, hn, hc, hf, hgl⟩
        simp only [Need, fat, List.nil_append, List.cons_append, List.getD_cons_zero, List.getD_cons_succ, Fct.hold, and_true] at hn
        refine ⟨by simp [wantP, hn], ?_⟩
        simp [execOp, hn, hc, go_sem]
        exact rfl
      apply go_val pre_kept
      · rintro ρ wr ⟨hg, hn, hc, hf, hgl⟩
        simp only [Need, fat, List.nil_append, List.cons_append, List.getD_cons_zero, List.getD_cons_succ, Fct.hold, and_true] at hn
        refine ⟨by simp [wantP, hn], ?_⟩
        simp [execOp, hn, hc, go_sem]
        exact rfl
      apply go_val (x := .int .i64 (q : Int)) pre_kept
      · rintro ρ wr ⟨hg, hn, hc, hf, hgl⟩
        simp only [Need, fat, List.nil_append, List.cons_append, List.getD_cons_zero, List.getD_cons_succ, Fct.hold, and_true] at hn
        refine ⟨by simp [wantP, hn], ?_⟩
        simp [execOp, hn, hc, go_sem, hqi]
      apply go_val pre_kept
      · rintro ρ wr ⟨hg, hn, hc, hf, hgl⟩
        simp only [Need, fat, List.nil_append, List.cons_append, List.getD_cons_zero, List.getD_cons_succ, Fct.hold, and_true] at hn
        refine ⟨by simp [wantP, hn], ?_⟩
        simp [execOp, hn, hc, go_sem]
        exact rfl
      apply go_val (x := .pointer (some ⟨b, o + q, none⟩)) pre_kept
      · rintro ρ wr ⟨hg, hn, hc, hf, hgl⟩
        simp only [Need, fat, List.nil_append, List.cons_append, List.getD_cons_zero, List.getD_cons_succ, Fct.hold, and_true] at hn
        refine ⟨by simp [wantP, hn], ?_⟩
        simp [execOp, hn, hc, go_sem, hq0, hq4]
      apply go_val (x := .int .u64 (v : Int)) pre_kept
      · rintro ρ wr ⟨hg, hn, hc, hf, hgl⟩
        simp only [Need, fat, List.nil_append, List.cons_append, List.getD_cons_zero, List.getD_cons_succ, Fct.hold, and_true] at hn
        have hl := hg.cell H5.out.1
        refine ⟨by simp [wantP, hn], ?_⟩
        simp [execOp, hn, hc, go_sem, hl]
      apply go_val pre_kept
      · rintro ρ wr ⟨hg, hn, hc, hf, hgl⟩
        simp only [Need, fat, List.nil_append, List.cons_append, List.getD_cons_zero, List.getD_cons_succ, Fct.hold, and_true] at hn
        refine ⟨by simp [wantP, hn], ?_⟩
        simp [execOp, hn, hc, go_sem]
        exact rfl
      apply go_val (x := .int .i64 (m : Int)) pre_kept
      · rintro ρ wr ⟨hg, hn, hc, hf, hgl⟩
        simp only [Need, fat, List.nil_append, List.cons_append, List.getD_cons_zero, List.getD_cons_succ, Fct.hold, and_true] at hn
        refine ⟨by simp [wantP, hn], ?_⟩
        simp [execOp, hn, hc, go_sem, hand]
      apply go_val (x := .int .u64 (p : Int)) pre_kept
      · rintro ρ wr ⟨hg, hn, hc, hf, hgl⟩
        simp only [Need, fat, List.nil_append, List.cons_append, List.getD_cons_zero, List.getD_cons_succ, Fct.hold, and_true] at hn
        refine ⟨by simp [wantP, hn], ?_⟩
        simp [execOp, hn, hc, go_sem, hshl]
      apply go_val (x := .int .u64 (z : Int)) pre_kept
      · rintro ρ wr ⟨hg, hn, hc, hf, hgl⟩
        simp only [Need, fat, List.nil_append, List.cons_append, List.getD_cons_zero, List.getD_cons_succ, Fct.hold, and_true] at hn
        refine ⟨by simp [wantP, hn], ?_⟩
        simp [execOp, hn, hc, go_sem, hor]
      apply go_val pre_kept
      · rintro ρ wr ⟨hg, hn, hc, hf, hgl⟩
        simp only [Need, fat, List.nil_append, List.cons_append, List.getD_cons_zero, List.getD_cons_succ, Fct.hold, and_true] at hn
        refine ⟨by simp [wantP, hn], ?_⟩
        simp [execOp, hn, hc, go_sem]
        exact rfl
      apply go_val (x := .pointer (some ⟨b, o + q, none⟩)) pre_kept
      · rintro ρ wr ⟨hg, hn, hc, hf, hgl⟩
        simp only [Need, fat, List.nil_append, List.cons_append, List.getD_cons_zero, List.getD_cons_succ, Fct.hold, and_true] at hn
        refine ⟨by simp [wantP, hn], ?_⟩
        simp [execOp, hn, hc, go_sem, hq0, hq4]
      intro w2 hk2
      simp only [Post, List.nil_append, List.cons_append, Act.put, List.setIfInBounds_toArray, List.set_cons_zero, List.set_cons_succ]
      have hl := hk2.cell H5.out.1
      have hfz : w2.frozen? ⟨b, o + q, none⟩ = false := blk_free (Kept.blk hk2 HR.out.1) _
      have HK := Lib.hid hk2
      clear hk2
      rename_i K hK
      unfold Oper.wp execOp
      go_simp
      refine hK _ _ ?_
      clear hK K
      have hgr : Gr b w (w2.setCell ⟨b, o + q, none⟩ (.int .u64 (z : Int))) := ((HR.out.2.2.trans ((Kept.drew (Kept.refl _)).gr b)).trans (HK.out.gr b)).set (.inl rfl) _
      have hb2 : (w2.setCell ⟨b, o + q, none⟩ (.int .u64 (z : Int))).heap[b]? = some (.cells (setWd cs o (putN X x (n + 1))) t (0, 0)) := by
        have := Kept.blk HK.out HR.out.1
        rw [← HZ.out]
        simp [World.setCell, Array.getElem?_modify, this]
      have hs2 : (w2.setCell ⟨b, o + q, none⟩ (.int .u64 (z : Int))).heap[w.heap.size]? = some (.cells #[.int .u8 x, .int .u8 y] 74 (0, 0)) :=
        blk_aside (Kept.blk HK.out HR.out.2.1) (by simp only []; omega) _
      have H6 := Lib.hid (And.intro hb2 (And.intro hs2 hgr))
      clear hb2 hs2 hgr
      go_wp2
      go_roundw
      case rel => exact ⟨n + 1, by rw [← HC.out]; go_num, by have := HC.out; omega, by have := HC.out; omega, H6.out⟩
      case measure => simp [intOf]; omega
    · go_wp2
      go_end0
      refine ⟨rfl, ?_, HR.out.2.2⟩
      have : n = y + 1 - x := by have := HC.out; omega
      rw [← this]
      exact HR.out.1
theorem setWd4 (a b c d : Value) (X : BitVec 256) : setWd #[a, b, c, d] 0 X = #[wd X 0, wd X 1, wd X 2, wd X 3] := rfl
theorem setWd6 (a b c d e f : Value) (X : BitVec 256) : setWd #[a, b, c, d, e, f] 1 X = #[a, wd X 0, wd X 1, wd X 2, wd X 3, f] := rfl
set_option maxHeartbeats 2000000 in
theorem single_any (c : Nat) (hc : c ≤ 255) (w : World) : Calls Try.prog 51 #[.int .u8 c] w fun e w' => e = .returned (set4 (putN 0#256 c 1)) ∧ Kept w w' := by
  go_enter Try.func51, Try.ntmps51
  go_wp2_with fail
  obtain ⟨h0, h1, hk⟩ := alloc2 w (.cells #[.int .u64 0, .int .u64 0, .int .u64 0, .int .u64 0] 24) (.cells #[.int .u64 0, .int .u64 0, .int .u64 0, .int .u64 0] 24)
  generalize (w.alloc _).alloc _ = wa at *
  refine (put_any (w.heap.size + 1) 0 c c hc hc 0#256 #[.int .u64 0, .int .u64 0, .int .u64 0, .int .u64 0] 24 wa (by decide) (by rw [setWd4]; simp only [wd_zero]; exact h1)).mono ?_
  rintro e w1 ⟨rfl, hb, hg⟩
  rw [show c + 1 - c = 1 from by omega, setWd4] at hb
  have h2 := hg.blk h0 (by omega)
  have HK := Lib.hid (hg.above hk (by omega))
  have H2 := Lib.hid h2
  obtain ⟨⟨c0, c1, c2, c3⟩, -⟩ := box4 hb
  obtain ⟨⟨d0, d1, d2, d3⟩, f0, f1, f2, f3⟩ := box4 h2
  clear h0 h1 hk hb hg h2
  generalize hX : putN 0#256 c 1 = X at *
  have HX := Lib.hid hX
  clear hX
  simp only [wd_eq] at *
  go_wp2_with fail
  refine bodyPost_ret (v := set4 X) ?_ rfl ⟨by rw [HX.out], ?_⟩
  · simp [results, Try.results51, go_sem, set4, wd_eq, d0, d1, d2, d3]
  · exact (((HK.out.setCell (Nat.le_refl _) _).setCell (Nat.le_refl _) _).setCell (Nat.le_refl _) _).setCell (Nat.le_refl _) _
/-- A set, of which the first n words are turned over. -/
def mix (x : BitVec 256) : Nat → Array Value
  | 0 => #[wd x 0, wd x 1, wd x 2, wd x 3]
  | 1 => #[wd (~~~ x) 0, wd x 1, wd x 2, wd x 3]
  | 2 => #[wd (~~~ x) 0, wd (~~~ x) 1, wd x 2, wd x 3]
  | 3 => #[wd (~~~ x) 0, wd (~~~ x) 1, wd (~~~ x) 2, wd x 3]
  | _ => #[wd (~~~ x) 0, wd (~~~ x) 1, wd (~~~ x) 2, wd (~~~ x) 3]
theorem turn_w (x : BitVec 256) (q : Nat) (hq : q < 4) : bits .xor .u64 (if IntKind.u64.signed = true then -1 else IntKind.u64.max) (wdN x q : Int) = (wdN (~~~ x) q : Int) := by
  have e : (if IntKind.u64.signed = true then -1 else IntKind.u64.max) = ((18446744073709551615 : Nat) : Int) := by decide +kernel
  rw [e, bits_xor_u64_nat _ _ (by decide) (wdN_lt _ _)]
  congr 1
  rw [wdN_not x hq]
  have h := wdN_lt x q
  generalize wdN x q = v at *
  have h2 : 18446744073709551615 - v = 2 ^ 64 - (v + 1) := by omega
  rw [h2, show (18446744073709551615 : Nat) = 2 ^ 64 - 1 from rfl]
  apply Nat.eq_of_testBit_eq
  intro i
  rw [Nat.testBit_xor, Nat.testBit_two_pow_sub_one, Nat.testBit_two_pow_sub_succ (by omega)]
  by_cases hi : i < 64
  · simp [hi]
  · have : v.testBit i = false := Nat.testBit_lt_two_pow (Nat.lt_of_lt_of_le (by omega : v < 2 ^ 64) (Nat.pow_le_pow_right (by decide) (by omega)))
    simp [hi, this]
set_option maxHeartbeats 2000000 in
theorem others_any (x : BitVec 256) (w : World) : Calls Try.prog 56 #[set4 x] w fun e w' => e = .returned (set4 (~~~ x)) ∧ Kept w w' := by
  have t0 := turn_w x 0 (by decide)
  have t1 := turn_w x 1 (by decide)
  have t2 := turn_w x 2 (by decide)
  have t3 := turn_w x 3 (by decide)
  unfold set4
  simp only [wd_eq]
  go_enter Try.func56, Try.ntmps56
  go_wp2
  go_loopw [3, 4] (fun _ i wr => ∃ n : Nat, n ≤ 4 ∧ i = .int .i64 n ∧ wr.heap[w.heap.size]? = some (.cells (mix x n) 24 (0, 0)) ∧ wr.heap[w.heap.size + 1]? = some (.cells #[.int .u64 0, .int .u64 0, .int .u64 0, .int .u64 0] 24 (0, 0)) ∧ Kept w wr) (fun _ i _ => 4 - (intOf i).toNat)
  case atStart =>
    obtain ⟨h0, h1, hk⟩ := alloc2 w (.cells #[wd x 0, wd x 1, wd x 2, wd x 3] 24) (.cells #[.int .u64 0, .int .u64 0, .int .u64 0, .int .u64 0] 24)
    exact ⟨0, by omega, rfl, h0, h1, hk⟩
  case round =>
    obtain ⟨n, hn4, rfl, h0, h1, hk⟩ := hrel
    rcases (by omega : n = 0 ∨ n = 1 ∨ n = 2 ∨ n = 3 ∨ n = 4) with rfl | rfl | rfl | rfl | rfl
    · have H := Lib.hid (And.intro h0 (And.intro h1 hk))
      simp only [mix] at h0
      obtain ⟨⟨c0, c1, c2, c3⟩, f0, f1, f2, f3⟩ := box4 h0
      simp only [wd_eq] at c0 c1 c2 c3
      clear h0 h1 hk hn4
      go_wp2
      have hb : (wr.setCell ⟨w.heap.size, 0, none⟩ (.int .u64 (wdN (~~~ x) 0 : Int))).heap[w.heap.size]? = some (.cells (mix x 1) 24 (0, 0)) := by
        simp [World.setCell, Array.getElem?_modify, H.out.1, mix, wd_eq]
      have hb1 : (wr.setCell ⟨w.heap.size, 0, none⟩ (.int .u64 (wdN (~~~ x) 0 : Int))).heap[w.heap.size + 1]? = _ := blk_aside H.out.2.1 (by simp) _
      have HH := Lib.hid (And.intro hb (And.intro hb1 (H.out.2.2.setCell (p := ⟨w.heap.size, 0, none⟩) (Nat.le_refl _) (.int .u64 (wdN (~~~ x) 0 : Int)))))
      clear hb hb1
      go_roundw
      case rel => exact ⟨1, by omega, rfl, HH.out⟩
      case measure => simp [intOf]
    · have H := Lib.hid (And.intro h0 (And.intro h1 hk))
      simp only [mix] at h0
      obtain ⟨⟨c0, c1, c2, c3⟩, f0, f1, f2, f3⟩ := box4 h0
      simp only [wd_eq] at c0 c1 c2 c3
      clear h0 h1 hk hn4
      go_wp2
      have hb : (wr.setCell ⟨w.heap.size, 1, none⟩ (.int .u64 (wdN (~~~ x) 1 : Int))).heap[w.heap.size]? = some (.cells (mix x 2) 24 (0, 0)) := by
        simp [World.setCell, Array.getElem?_modify, H.out.1, mix, wd_eq]
      have hb1 : (wr.setCell ⟨w.heap.size, 1, none⟩ (.int .u64 (wdN (~~~ x) 1 : Int))).heap[w.heap.size + 1]? = _ := blk_aside H.out.2.1 (by simp) _
      have HH := Lib.hid (And.intro hb (And.intro hb1 (H.out.2.2.setCell (p := ⟨w.heap.size, 1, none⟩) (Nat.le_refl _) (.int .u64 (wdN (~~~ x) 1 : Int)))))
      clear hb hb1
      go_roundw
      case rel => exact ⟨2, by omega, rfl, HH.out⟩
      case measure => simp [intOf]
    · have H := Lib.hid (And.intro h0 (And.intro h1 hk))
      simp only [mix] at h0
      obtain ⟨⟨c0, c1, c2, c3⟩, f0, f1, f2, f3⟩ := box4 h0
      simp only [wd_eq] at c0 c1 c2 c3
      clear h0 h1 hk hn4
      go_wp2
      have hb : (wr.setCell ⟨w.heap.size, 2, none⟩ (.int .u64 (wdN (~~~ x) 2 : Int))).heap[w.heap.size]? = some (.cells (mix x 3) 24 (0, 0)) := by
        simp [World.setCell, Array.getElem?_modify, H.out.1, mix, wd_eq]
      have hb1 : (wr.setCell ⟨w.heap.size, 2, none⟩ (.int .u64 (wdN (~~~ x) 2 : Int))).heap[w.heap.size + 1]? = _ := blk_aside H.out.2.1 (by simp) _
      have HH := Lib.hid (And.intro hb (And.intro hb1 (H.out.2.2.setCell (p := ⟨w.heap.size, 2, none⟩) (Nat.le_refl _) (.int .u64 (wdN (~~~ x) 2 : Int)))))
      clear hb hb1
      go_roundw
      case rel => exact ⟨3, by omega, rfl, HH.out⟩
      case measure => simp [intOf]
    · have H := Lib.hid (And.intro h0 (And.intro h1 hk))
      simp only [mix] at h0
      obtain ⟨⟨c0, c1, c2, c3⟩, f0, f1, f2, f3⟩ := box4 h0
      simp only [wd_eq] at c0 c1 c2 c3
      clear h0 h1 hk hn4
      go_wp2
      have hb : (wr.setCell ⟨w.heap.size, 3, none⟩ (.int .u64 (wdN (~~~ x) 3 : Int))).heap[w.heap.size]? = some (.cells (mix x 4) 24 (0, 0)) := by
        simp [World.setCell, Array.getElem?_modify, H.out.1, mix, wd_eq]
      have hb1 : (wr.setCell ⟨w.heap.size, 3, none⟩ (.int .u64 (wdN (~~~ x) 3 : Int))).heap[w.heap.size + 1]? = _ := blk_aside H.out.2.1 (by simp) _
      have HH := Lib.hid (And.intro hb (And.intro hb1 (H.out.2.2.setCell (p := ⟨w.heap.size, 3, none⟩) (Nat.le_refl _) (.int .u64 (wdN (~~~ x) 3 : Int)))))
      clear hb hb1
      go_roundw
      case rel => exact ⟨4, by omega, rfl, HH.out⟩
      case measure => simp [intOf]
    · have H := Lib.hid hk
      simp only [mix] at h0
      obtain ⟨⟨c0, c1, c2, c3⟩, -⟩ := box4 h0
      obtain ⟨⟨d0, d1, d2, d3⟩, f0, f1, f2, f3⟩ := box4 h1
      simp only [wd_eq] at c0 c1 c2 c3
      clear h0 h1 hk hn4
      go_wp2
      refine bodyPost_ret (v := set4 (~~~ x)) ?_ rfl ⟨rfl, ?_⟩
      · simp [results, Try.results56, go_sem, set4, wd_eq, d0, d1, d2, d3]
      · exact (((H.out.setCell (by simp) _).setCell (by simp) _).setCell (by simp) _).setCell (by simp) _
theorem dot_any (w : World) : Calls Try.prog 40 #[] w fun e w' => e = .returned (set4 dot) ∧ Kept w w' := by
  go_enter Try.func40, Try.ntmps40
  go_wp2_with fail
  obtain ⟨h0, hk⟩ := alloc1 w (.cells #[.int .u64 0, .int .u64 0, .int .u64 0, .int .u64 0] 24)
  generalize w.alloc _ = wa at *
  refine (single_any 10 (by decide) wa).mono ?_
  rintro e w1 ⟨rfl, hk1⟩
  have H1 := Lib.hid (And.intro h0 (And.intro hk hk1))
  clear h0 hk hk1
  go_wp2_with fail
  refine (others_any _ w1).mono ?_
  rintro e w2 ⟨rfl, hk2⟩
  have H2 := Lib.hid (And.intro ((H1.out.2.2.trans hk2).blk H1.out.1) ((H1.out.2.1.trans H1.out.2.2).trans hk2))
  obtain ⟨⟨d0, d1, d2, d3⟩, f0, f1, f2, f3⟩ := box4 H2.out.1
  have e : ~~~ (putN 0#256 10 1) = dot := rfl
  rw [e]
  clear hk2 e
  unfold set4
  simp only [wd_eq]
  go_wp2_with fail
  refine bodyPost_ret (v := set4 dot) ?_ rfl ⟨rfl, ?_⟩
  · simp [results, Try.results40, go_sem, set4, wd_eq, d0, d1, d2, d3]
  · exact (((H2.out.2.setCell (Nat.le_refl _) _).setCell (Nat.le_refl _) _).setCell (Nat.le_refl _) _).setCell (Nat.le_refl _) _
theorem has_bool (x : BitVec 256) (c q m v : Nat) (hq : c / 64 = q) (hm : c % 64 = m) (hv : wdN x q = v) : (bits BinOp.and IntKind.u64 ((v : Int) / 2 ^ m) 1 == 1) = x.getLsbD c := by
  have h := wdN_has x c
  rw [hq, hm, hv] at h
  have hlt := wdN_lt x q
  rw [hv] at hlt
  have h2 : v / 2 ^ m ≤ v := Nat.div_le_self _ _
  rw [show ((v : Int) / 2 ^ m) = ((v / 2 ^ m : Nat) : Int) from by simp]
  generalize v / 2 ^ m = z at *
  rw [and_one_u64 _ (by omega) (by omega)]
  by_cases hb : x.getLsbD c = true
  · rw [hb] at h ⊢
    simp at h ⊢
    omega
  · simp only [Bool.not_eq_true] at hb
    rw [hb] at h ⊢
    simp at h ⊢
    omega
set_option maxHeartbeats 2000000 in
theorem Has_any (x : BitVec 256) (c : Nat) (hc : c ≤ 255) (w : World) : Calls Try.prog 14 #[set4 x, .int .u8 c] w fun e w' => e = .returned (.bool (x.getLsbD c)) ∧ Kept w w' := by
  obtain ⟨q, hq⟩ : ∃ q, c / 64 = q := ⟨_, rfl⟩
  obtain ⟨m, hm⟩ : ∃ m, c % 64 = m := ⟨_, rfl⟩
  obtain ⟨v, hv⟩ : ∃ v, wdN x q = v := ⟨_, rfl⟩
  have hqi : (c : Int) / 64 = (q : Int) := by omega
  have hq0 : (0 : Int) ≤ q := by omega
  have hq4 : (q : Int) < 4 := by omega
  have hand : bits .and .u8 (c : Int) 63 = (m : Int) := by rw [← hm]; exact and63_u8 c (by omega)
  have hcell : (w.alloc (.cells #[wd x 0, wd x 1, wd x 2, wd x 3] 24)).cell? ⟨w.heap.size, q, none⟩ = some (.int .u64 (v : Int)) := by
    rw [blk_cell (blk_new _ _), ← hv]
    rcases (by omega : q = 0 ∨ q = 1 ∨ q = 2 ∨ q = 3) with rfl | rfl | rfl | rfl <;> rfl
  unfold set4
  simp only [wd_eq] at hcell ⊢
  go_enter Try.func14, Try.ntmps14
  go_wp2
  go_ret
  exact ⟨by rw [has_bool x c q m v hq hm hv]; rfl, (Kept.refl _).alloc _⟩
set_option maxHeartbeats 2000000 in
theorem RHas_any (x : BitVec 256) (c : Nat) (hc : c ≤ 255) (w : World) : Calls Try.prog 15 #[set4 x, .int .u8 c] w fun e w' => e = .returned (.bool (x.getLsbD c)) ∧ Kept w w' := by
  obtain ⟨q, hq⟩ : ∃ q, c / 64 = q := ⟨_, rfl⟩
  obtain ⟨m, hm⟩ : ∃ m, c % 64 = m := ⟨_, rfl⟩
  obtain ⟨v, hv⟩ : ∃ v, wdN x q = v := ⟨_, rfl⟩
  have hqi : (c : Int) / 64 = (q : Int) := by omega
  have hq0 : (0 : Int) ≤ q := by omega
  have hq4 : (q : Int) < 4 := by omega
  have hand : bits .and .u8 (c : Int) 63 = (m : Int) := by rw [← hm]; exact and63_u8 c (by omega)
  have hcell : (w.alloc (.cells #[wd x 0, wd x 1, wd x 2, wd x 3] 24)).cell? ⟨w.heap.size, q, none⟩ = some (.int .u64 (v : Int)) := by
    rw [blk_cell (blk_new _ _), ← hv]
    rcases (by omega : q = 0 ∨ q = 1 ∨ q = 2 ∨ q = 3) with rfl | rfl | rfl | rfl <;> rfl
  unfold set4
  simp only [wd_eq] at hcell ⊢
  go_enter Try.func15, Try.ntmps15
  go_wp2
  go_ret
  exact ⟨by rw [has_bool x c q m v hq hm hv]; rfl, (Kept.refl _).alloc _⟩
set_option maxHeartbeats 2000000 in
theorem With_any (x : BitVec 256) (c : Nat) (hc : c ≤ 255) (w : World) : Calls Try.prog 62 #[set4 x, .int .u8 c] w fun e w' => e = .returned (set4 (x ||| (1#256 <<< c))) ∧ Kept w w' := by
  obtain ⟨q, hq⟩ : ∃ q, c / 64 = q := ⟨_, rfl⟩
  obtain ⟨m, hm⟩ : ∃ m, c % 64 = m := ⟨_, rfl⟩
  obtain ⟨p, hp⟩ : ∃ p, 2 ^ m = p := ⟨_, rfl⟩
  obtain ⟨v, hv⟩ : ∃ v, wdN x q = v := ⟨_, rfl⟩
  obtain ⟨z, hz⟩ : ∃ z, v ||| p = z := ⟨_, rfl⟩
  have hand : bits .and .u8 (c : Int) 63 = (m : Int) := by rw [← hm]; exact and63_u8 c (by omega)
  have hshl : IntKind.u64.wrap (2 ^ min m 64) = (p : Int) := by rw [← hp]; exact shl_w m (by omega)
  have hshl2 : IntKind.u64.wrap (2 ^ m) = (p : Int) := by rw [← hshl, show min m 64 = m from by omega]
  have hor : bits .or .u64 (v : Int) (p : Int) = (z : Int) := by
    rw [← hz]
    exact bits_or_u64_nat _ _ (by rw [← hv]; exact wdN_lt _ _) (by rw [← hp]; exact Nat.pow_lt_pow_right (n := 64) (by decide) (by omega))
  have hm63 : m ≤ 63 := by omega
  have hw : ∀ i, wdN (x ||| (1#256 <<< c)) i = if i = q then z else wdN x i := fun i => by
    rw [wdN_put x (by omega), hq, hm, hp, ← hz]
    split
    · rename_i h; rw [← hv, h]
    · rfl
  have e : set4 (x ||| (1#256 <<< c)) = .agg #[.int .u64 ((if 0 = q then z else wdN x 0 : Nat) : Int), .int .u64 ((if 1 = q then z else wdN x 1 : Nat) : Int), .int .u64 ((if 2 = q then z else wdN x 2 : Nat) : Int), .int .u64 ((if 3 = q then z else wdN x 3 : Nat) : Int)] := by
    unfold set4
    simp only [wd_eq, hw]
  rw [e]
  clear e hw
  unfold set4
  simp only [wd_eq]
  have HC := Lib.hid (And.intro hm hp)
  clear hm hp
  rcases (by omega : q = 0 ∨ q = 1 ∨ q = 2 ∨ q = 3) with rfl | rfl | rfl | rfl
  · have hqi : (c : Int) / 64 = 0 := by omega
    simp (decide := true) only [if_true, if_false, reduceIte]
    rw [hv]
    clear hz hv hq
    go_enter Try.func62, Try.ntmps62
    go_wp2
    refine bodyPost_ret (v := .agg #[.int .u64 (z : Int), .int .u64 (wdN x 1 : Int), .int .u64 (wdN x 2 : Int), .int .u64 (wdN x 3 : Int)]) ?_ rfl ⟨rfl, ?_⟩
    · simp [results, Try.results62, go_sem]
    · exact ((Kept.refl _).alloc _).alloc _
  · have hqi : (c : Int) / 64 = 1 := by omega
    simp (decide := true) only [if_true, if_false, reduceIte]
    rw [hv]
    clear hz hv hq
    go_enter Try.func62, Try.ntmps62
    go_wp2
    refine bodyPost_ret (v := .agg #[.int .u64 (wdN x 0 : Int), .int .u64 (z : Int), .int .u64 (wdN x 2 : Int), .int .u64 (wdN x 3 : Int)]) ?_ rfl ⟨rfl, ?_⟩
    · simp [results, Try.results62, go_sem]
    · exact ((Kept.refl _).alloc _).alloc _
  · have hqi : (c : Int) / 64 = 2 := by omega
    simp (decide := true) only [if_true, if_false, reduceIte]
    rw [hv]
    clear hz hv hq
    go_enter Try.func62, Try.ntmps62
    go_wp2
    refine bodyPost_ret (v := .agg #[.int .u64 (wdN x 0 : Int), .int .u64 (wdN x 1 : Int), .int .u64 (z : Int), .int .u64 (wdN x 3 : Int)]) ?_ rfl ⟨rfl, ?_⟩
    · simp [results, Try.results62, go_sem]
    · exact ((Kept.refl _).alloc _).alloc _
  · have hqi : (c : Int) / 64 = 3 := by omega
    simp (decide := true) only [if_true, if_false, reduceIte]
    rw [hv]
    clear hz hv hq
    go_enter Try.func62, Try.ntmps62
    go_wp2
    refine bodyPost_ret (v := .agg #[.int .u64 (wdN x 0 : Int), .int .u64 (wdN x 1 : Int), .int .u64 (wdN x 2 : Int), .int .u64 (z : Int)]) ?_ rfl ⟨rfl, ?_⟩
    · simp [results, Try.results62, go_sem]
    · exact ((Kept.refl _).alloc _).alloc _
theorem zagg4 : set4 0#256 = .agg #[.int .u64 0, .int .u64 0, .int .u64 0, .int .u64 0] := by unfold set4; simp only [wd_zero]
theorem one_any (c : Nat) (hc : c ≤ 255) (w : World) : Calls Try.prog 53 #[.int .u8 c] w fun e w' => e = .returned (re6 1 (putN 0#256 c 1) (.slice none 0 0)) ∧ Kept w w' := by
  go_enter Try.func53, Try.ntmps53
  go_wp2_with fail
  obtain ⟨h0, h1, hk⟩ := alloc2 w (.cells #[.int .i64 0, .int .u64 0, .int .u64 0, .int .u64 0, .int .u64 0, .slice none 0 0] 27) (.cells #[.int .u64 0, .int .u64 0, .int .u64 0, .int .u64 0] 24)
  generalize (w.alloc _).alloc _ = wa at *
  rw [← zagg4]
  refine (With_any 0#256 c hc wa).mono ?_
  rintro e w1 ⟨rfl, hk1⟩
  have H := Lib.hid (And.intro (hk1.blk h0) (hk.trans hk1))
  obtain ⟨⟨d0, d1, d2, d3, d4, d5⟩, f0, f1, f2, f3, f4, f5⟩ := box6 H.out.1
  clear h0 h1 hk hk1
  have e : (0#256 ||| (1#256 <<< c)) = putN 0#256 c 1 := rfl
  rw [e]
  clear e
  unfold set4
  generalize hX : putN 0#256 c 1 = X at *
  have HX := Lib.hid hX
  clear hX
  simp only [wd_eq]
  go_wp2_with fail
  refine bodyPost_ret (v := re6 1 X (.slice none 0 0)) ?_ rfl ⟨by rw [HX.out], ?_⟩
  · simp [results, Try.results53, go_sem, re6, wd_eq, d0, d1, d2, d3, d4, d5]
  · exact (((((H.out.2.setCell (Nat.le_refl _) _).setCell (Nat.le_refl _) _).setCell (Nat.le_refl _) _).setCell (Nat.le_refl _) _).setCell (Nat.le_refl _) _).setCell (Nat.le_refl _) _
end Go.Proofs.Ytpnmcinbohdmhaa
