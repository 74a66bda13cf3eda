/-
  The runs of a set of one byte. Conditions: none.
-/
import Derived.Test.YtpnmcinbohdmhaaAlive
set_option linter.unusedSimpArgs false
namespace Go.Proofs.Ytpnmcinbohdmhaa
open Go Go.RowKit Kit
theorem info74 : ∃ i, Try.prog.info? 74 = some i ∧ i.zero = some (.agg #[.int .u8 0, .int .u8 0]) ∧ i.size = 2 ∧ i.bytes = 2 := by
  have h : (Try.prog.info? 74).map (fun i => (i.zero, i.size, i.bytes)) = some (some (.agg #[.int .u8 0, .int .u8 0]), 2, 2) := by kernel_rfl
  cases hi : Try.prog.info? 74 with
  | none => rw [hi] at h; cases h
  | some i =>
    rw [hi] at h
    simp only [Option.map_some, Option.some.injEq, Prod.mk.injEq] at h
    exact ⟨i, rfl, h.1, h.2.1, h.2.2⟩
/-- The list: nothing till the byte is seen, then its run. -/
def RunAt (base c k : Nat) (w : World) (v : Value) : Prop := (k ≤ c ∧ v = .slice none 0 0) ∨ (c < k ∧ ∃ q cap, v = .slice (some ⟨q, 0, none⟩) 1 cap ∧ w.heap.size > q ∧ base ≤ q ∧ w.cell? ⟨q, 0, none⟩ = some (.int .u8 c) ∧ w.cell? ⟨q, 1, none⟩ = some (.int .u8 c))
theorem RunAt.kept {base c k : Nat} {w w' : World} {v : Value} (h : RunAt base c k w v) (hk : Kept w w') : RunAt base c k w' v := by
  rcases h with h | ⟨h1, q, cap, h2, h3, h4, h5, h6⟩
  · exact .inl h
  · exact .inr ⟨h1, q, cap, h2, Nat.lt_of_lt_of_le h3 hk.size, h4, hk.cell h5, hk.cell h6⟩
theorem wpList_run {w : World} {ops : Array Oper} {rest : List Oper} {o : Oper} {a : Act} {Q : Exit → Act → World → Prop} (hgd : o.guard = none) (s x : Operand)
    (ho : o.op = .call { callee := .builtin .append, args := #[s, x], argTypes := #[71, 71] }) (hs : a.eval s = .slice none 0 0) (c k base : Nat) (hx : a.eval x = .slice (some ⟨k, 0, none⟩) 1 1)
    (h0 : w.cell? ⟨k, 0, none⟩ = some (.int .u8 c)) (h1 : w.cell? ⟨k, 1, none⟩ = some (.int .u8 c)) (hb : base ≤ w.heap.size)
    (K : ∀ q cap w', w'.heap.size > q → base ≤ q → w'.cell? ⟨q, 0, none⟩ = some (.int .u8 c) → w'.cell? ⟨q, 1, none⟩ = some (.int .u8 c) → Kept w w' → wpList Try.prog ops Q rest (a.put o.dst (.slice (some ⟨q, 0, none⟩) 1 cap)) w') :
    wpList Try.prog ops Q (o :: rest) a w := by
  obtain ⟨i0, hi, hz, hsz, hby⟩ := info74
  have hm : maxLen = 9223372036854775807 := rfl
  have hadd : ∀ (q j : Nat), (⟨q, 0, none⟩ : Addr).add j = ⟨q, j, none⟩ := fun q j => by unfold Addr.add; split <;> simp_all
  refine wpList_append_own_at (P := Try.prog) w hgd s x 71 ho base 74 i0 _ 2 2 (by kernel_rfl) hi hz hsz hby rfl (by omega) (.slice none 0 0) 0 [] hs (World.ownsRow_nil _ _ _ _) ⟨k, 0, none⟩ 1 1 [.int .u8 c, .int .u8 c] hx rfl (fun j u hj => ?_) (fun u hu => ?_) (by rw [hm]; omega) (by omega) hb ?_
  · rw [hadd]
    match j, hj with
    | 0, hj => simp at hj; subst hj; exact h0
    | 1, hj => simp at hj; subst hj; exact h1
  · simp at hu; subst hu; rfl
  · intro v' w' hown hgr _ _
    have hk : Kept w w' := Kept.of_grown (by simpa [Value.ownBlock] using hgr)
    rcases hown.2 with ⟨_, h⟩ | ⟨q, cap, cur, rfl, hq, hh, _⟩
    · simp at h
    · have c0 := hown.cells (g := q) rfl 0 (.int .u8 c) rfl
      have c1 := hown.cells (g := q) rfl 1 (.int .u8 c) rfl
      rw [hadd] at c0 c1
      exact K q cap w' (blk_lt hh) hq c0 c1 hk
set_option maxRecDepth 100000 in
set_option maxHeartbeats 4000000 in
theorem runs_any (X : BitVec 256) (c : Nat) (hc : c ≤ 255) (hX : ∀ i, X.getLsbD i = decide (i = c)) (w : World) : Calls Try.prog 38 #[.agg #[.int .u64 (wdN X 0), .int .u64 (wdN X 1), .int .u64 (wdN X 2), .int .u64 (wdN X 3)]] w fun e w' => ∃ q cap, e = .returned (.slice (some ⟨q, 0, none⟩) 1 cap) ∧ w'.cell? ⟨q, 0, none⟩ = some (.int .u8 c) ∧ w'.cell? ⟨q, 1, none⟩ = some (.int .u8 c) ∧ Kept w w' := by
  have HX := Lib.hid hX
  clear hX
  have HA := Lib.hid (alloc1 w (.cells #[.int .u64 (wdN X 0), .int .u64 (wdN X 1), .int .u64 (wdN X 2), .int .u64 (wdN X 3)] 24))
  go_enter Try.func38, Try.ntmps38
  go_wp2
  go_loopw [3, 6] (fun v i wr => ∃ k : Nat, i = .int .i64 k ∧ k ≤ 256 ∧ RunAt (w.heap.size + 1) c k wr v ∧ wr.heap[w.heap.size]? = some (.cells #[.int .u64 (wdN X 0), .int .u64 (wdN X 1), .int .u64 (wdN X 2), .int .u64 (wdN X 3)] 24 (0, 0)) ∧ Kept w wr) (fun _ i _ => 256 - (intOf i).toNat)
  case atStart => exact ⟨0, rfl, by omega, .inl ⟨by omega, rfl⟩, HA.out.1, HA.out.2⟩
  case round =>
    clear HA
    obtain ⟨k, rfl, hk, hrun, hb, hkw⟩ := hrel
    have H := Lib.hid (And.intro hb hkw)
    have HR := Lib.hid hrun
    obtain ⟨⟨x0, x1, x2, x3⟩, -⟩ := box4 hb
    clear hrun hb hkw
    by_cases hlt : k ≤ 255
    · by_cases hkc : k = c
      · subst hkc
        have HB := Lib.hid (show X.getLsbD k = true by rw [HX.out k]; simp)
        have hv : u3 = .slice none 0 0 := by
          rcases HR.out with h | h
          · exact h.2
          · omega
        subst hv
        clear HR
        go_wp2_with fail
        refine (has4 X k hlt wr).mono ?_
        rintro e w5 ⟨rfl, hk5⟩
        rw [HB.out]
        replace H := Lib.hid (And.intro (hk5.blk H.out.1) (H.out.2.trans hk5))
        clear hk5 x0 x1 x2 x3
        obtain ⟨⟨x0, x1, x2, x3⟩, -⟩ := box4 H.out.1
        by_cases h0 : k = 0
        · have hk0 : ¬ (0 : Int) < k := by omega
          clear h0
          have HL := Lib.hid (show w.heap.size < w5.heap.size from blk_lt H.out.1)
          have ha := (alloc1 w5 (.cells #[.int .u8 k, .int .u8 k] 74)).1
          obtain ⟨⟨a0, a1⟩, -⟩ := box2 ha
          clear ha
          go_wp2_with (at_builtin; refine wpList_run rfl _ _ rfl rfl k w5.heap.size (w.heap.size + 1) rfl a0 a1 (by have := HL.out; simp; omega) ?_; intro q cap w8 hq hq2 c0 c1 hk8)
          have HF := Lib.hid (And.intro ((((Kept.refl w5).alloc (.cells #[.int .u8 k, .int .u8 k] 74)).trans hk8).blk H.out.1) (H.out.2.trans (((Kept.refl w5).alloc (.cells #[.int .u8 k, .int .u8 k] 74)).trans hk8)))
          have HRF : Hid (RunAt (w.heap.size + 1) k (k + 1) w8 (.slice (some ⟨q, 0, none⟩) 1 cap)) := Lib.hid (.inr ⟨by omega, q, cap, rfl, hq, hq2, c0, c1⟩)
          clear hk8 c0 c1 hq hq2
          go_roundw
          case rel => exact ⟨k + 1, by go_num, by omega, HRF.out, HF.out⟩
          case measure => simp [intOf]; omega

        · have hk0 : (0 : Int) < k := by omega
          have hsub : IntKind.u8.wrap ((k : Int) - 1) = ((k - 1 : Nat) : Int) := by
            rw [IntWalk.u8_in _ (by omega)]; omega
          have HB1 := Lib.hid (show X.getLsbD (k - 1) = false by rw [HX.out (k - 1)]; simp; omega)
          generalize hk1 : k - 1 = k1 at hsub HB1
          have hk1b : k1 ≤ 255 := by omega
          have hsub2 : (k : Int) - 1 = k1 := by omega
          clear hk1
          go_wp2_with fail
          refine (has4 X k1 hk1b w5).mono ?_
          rintro e w6 ⟨rfl, hk6⟩
          rw [HB1.out]
          replace H := Lib.hid (And.intro (hk6.blk H.out.1) (H.out.2.trans hk6))
          clear hk6 x0 x1 x2 x3
          have HL := Lib.hid (show w.heap.size < w6.heap.size from blk_lt H.out.1)
          have ha := (alloc1 w6 (.cells #[.int .u8 k, .int .u8 k] 74)).1
          obtain ⟨⟨a0, a1⟩, -⟩ := box2 ha
          clear ha
          go_wp2_with (at_builtin; refine wpList_run rfl _ _ rfl rfl k w6.heap.size (w.heap.size + 1) rfl a0 a1 (by have := HL.out; simp; omega) ?_; intro q cap w8 hq hq2 c0 c1 hk8)
          have HF := Lib.hid (And.intro ((((Kept.refl w6).alloc (.cells #[.int .u8 k, .int .u8 k] 74)).trans hk8).blk H.out.1) (H.out.2.trans (((Kept.refl w6).alloc (.cells #[.int .u8 k, .int .u8 k] 74)).trans hk8)))
          have HRF : Hid (RunAt (w.heap.size + 1) k (k + 1) w8 (.slice (some ⟨q, 0, none⟩) 1 cap)) := Lib.hid (.inr ⟨by omega, q, cap, rfl, hq, hq2, c0, c1⟩)
          clear hk8 c0 c1 hq hq2
          go_roundw
          case rel => exact ⟨k + 1, by go_num, by omega, HRF.out, HF.out⟩
          case measure => simp [intOf]; omega

      · have HB := Lib.hid (show X.getLsbD k = false by rw [HX.out k]; simp [hkc])
        have HR2 : Hid (RunAt (w.heap.size + 1) c (k + 1) wr u3) := Lib.hid (by
          rcases HR.out with h | ⟨h, h'⟩
          · exact .inl ⟨by omega, h.2⟩
          · exact .inr ⟨by omega, h'⟩)
        go_wp2_with fail
        refine (has4 X k hlt wr).mono ?_
        rintro e w5 ⟨rfl, hk5⟩
        rw [HB.out]
        replace H := Lib.hid (And.intro (hk5.blk H.out.1) (H.out.2.trans hk5))
        replace HR2 := Lib.hid (HR2.out.kept hk5)
        clear hk5 x0 x1 x2 x3 HR
        go_wp2_with fail
        go_roundw
        case rel => exact ⟨k + 1, by go_num, by omega, HR2.out, H.out⟩
        case measure => simp [intOf]; omega
    · have hk6 : k = 256 := by omega
      subst hk6
      go_wp2_with fail
      go_ret
      rcases HR.out with h | ⟨h, q, cap, rfl, h3, h4, h5, h6⟩
      · omega
      · exact ⟨q, cap, rfl, h5, h6, H.out.2⟩
end Go.Proofs.Ytpnmcinbohdmhaa
