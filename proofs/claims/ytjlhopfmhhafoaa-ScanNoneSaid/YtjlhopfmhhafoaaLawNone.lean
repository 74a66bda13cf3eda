/-
  For all bytes and every place the law ScanNone returns true. Conditions: none.
-/
import Derived.Test.YtjlhopfmhhafoaaAlv
import Derived.Test.YtjlhopfmhhafoaaScanC
set_option linter.unusedSimpArgs false
namespace Go.Proofs.Ytjlhopfmhhafoaa
open Go Go.RowKit Kit
theorem info3 : ∃ i, Try.prog.info? 3 = some i ∧ i.zero = some (.int .i64 0) ∧ i.size = 1 ∧ i.bytes = 8 := by
  have h : (Try.prog.info? 3).map (fun i => (i.zero, i.size, i.bytes)) = some (some (.int .i64 0), 1, 8) := by kernel_rfl
  cases hi : Try.prog.info? 3 with
  | none => rw [hi] at h; cases h
  | some i =>
    rw [hi] at h
    simp only [Option.map_some, Option.some.injEq, Prod.mk.injEq] at h
    exact ⟨i, rfl, h.1, h.2.1, h.2.2⟩
theorem make256 (w : World) : ∃ cs : Array Value, cs.size = 256 ∧ (Instr.makeSlice 23 (.int .i64 256) (.int .i64 256)).run Try.prog w = .ok (.slice (some ⟨w.heap.size, 0, none⟩) 256 256) (w.alloc (.cells cs 3)) := by
  obtain ⟨i, h1, h2, h3, h4⟩ := info3
  have h := run_makeSlice (P := Try.prog) (w := w) 23 3 i _ Try.underlying23 h1 h2 .i64 .i64 256 256 (by omega) (by omega) (by rw [h3]; decide) (by rw [h4]; decide) (by decide)
  rw [h3] at h
  exact ⟨_, size_madeCells _ _, h⟩
theorem set_blk {w : World} {g i : Nat} {cs : Array Value} {t : TypeId} (h : w.heap[g]? = some (.cells cs t (0, 0))) (u : Value) : (w.setCell ⟨g, i, none⟩ u).heap[g]? = some (.cells (cs.setIfInBounds i u) t (0, 0)) := by
  simp [World.setCell, Array.getElem?_modify, h]
def row256 : List Int := List.replicate 256 (-1)
theorem row256_len : row256.length = 256 := List.length_replicate
theorem row256_get (j : Nat) : row256[j]? = if j < 256 then some (-1) else none := by unfold row256; exact List.getElem?_replicate
def noneD : Dfa := ⟨[row256], [0]⟩
theorem noneD_scan (b : List UInt8) (z : Int) : noneD.scanAt b z = (-1, 0, 1) := by
  unfold Dfa.scanAt
  generalize b.drop _ = l
  cases l with
  | nil => rfl
  | cons c l =>
    have h : noneD.step 0 c.toNat = -1 := by
      have hc := c.toNat_lt
      simp only [Dfa.step, noneD, List.getD_eq_getElem?_getD, Int.toNat_zero, List.getElem?_cons_zero, Option.getD_some, row256_get, if_pos hc]
      split <;> rfl
    rw [Dfa.scan, h, if_neg (by decide)]
theorem noneD_at {w : World} {g g1 g2 : Nat} {cs : Array Value} {t1 t2 : TypeId} {f1 f2 : Nat × Nat} (_hs : cs.size = 256) (hc : ∀ j, j < 256 → cs[j]? = some (.int .i64 (-1))) (h : w.heap[g]? = some (.cells cs 3 (0, 0))) (h1 : w.heap[g1]? = some (.cells #[.slice (some ⟨g, 0, none⟩) 256 256] t1 f1)) (h2 : w.heap[g2]? = some (.cells #[.int .i64 0] t2 f2)) :
    DfaAt w (.slice (some ⟨g1, 0, none⟩) 1 1) (.slice (some ⟨g2, 0, none⟩) 1 1) noneD [.slice (some ⟨g, 0, none⟩) 256 256] := by
  have add0 : ∀ k j : Nat, (⟨k, 0, none⟩ : Addr).add j = ⟨k, j, none⟩ := fun k j => by simp [Addr.add]; exact fun h => h.symm
  refine ⟨⟨_, 1, rfl, Nat.le_refl _, by decide, fun j y hj => ⟨_, rfl, ?_⟩⟩, (by rfl), fun j v r hv hr => ?_, ⟨_, 1, rfl, Nat.le_refl _, by decide, fun j y hj => ⟨_, rfl, ?_⟩⟩⟩
  · rw [add0]
    cases j with
    | zero => simp at hj; subst hj; exact (blk_cell h1 0).trans rfl
    | succ j => simp at hj
  · cases j with
    | zero =>
      simp at hv
      simp [noneD] at hr
      subst hv hr
      refine ⟨_, 256, by rw [zs_len, row256_len], by rw [zs_len, row256_len]; exact Nat.le_refl _, by decide, fun j y hj => ⟨_, rfl, ?_⟩⟩
      rw [add0]
      have hlt : j < 256 := by have := (List.getElem?_eq_some_iff.1 hj).1; rwa [zs_len, row256_len] at this
      simp only [zs, List.getElem?_map, row256_get, if_pos hlt, Option.map_some, Option.some.injEq] at hj
      subst hj
      exact (blk_cell h j).trans (hc j hlt)
    | succ j => simp at hv
  · rw [add0]
    cases j with
    | zero => simp [zs, noneD] at hj; subst hj; exact (blk_cell h2 0).trans rfl
    | succ j => simp [zs, noneD] at hj
set_option maxRecDepth 100000 in
set_option maxHeartbeats 4000000 in
theorem lnone_any (vb : Value) (b : List UInt8) (z : Int) (w : World) (hb : Bs w vb b) : Calls Try.prog 5 #[vb, .int .i64 z] w fun e w' => e = .returned (.bool true) ∧ Kept w w' := by
  have HB := Lib.hid hb
  obtain ⟨Ab, cb, rfl⟩ := hb.form
  generalize hl : b.length = l at *
  have HL := Lib.hid hl
  clear hb hl
  go_enter Try.func5, Try.ntmps5
  go_wp2_with fail
  refine (alive_any _).mono ?_
  rintro e w5 ⟨rfl, hk⟩
  have HK := Lib.hid hk
  clear hk
  by_cases h1 : (l : Int) > 100
  · go_wp2_with fail
    go_ret
    exact ⟨rfl, HK.out⟩
  · have HBL : Hid (b.length ≤ 100) := Lib.hid (by have := HL.out; omega)
    go_wp2_with fail
    obtain ⟨cs0, hcs, hmk⟩ := make256 w5
    rw [hmk]
    have HCS := Lib.hid hcs
    have H0 := Lib.hid (blk_new w5 (.cells cs0 3))
    have HK0 := Lib.hid (HK.out.alloc (.cells cs0 3))
    have HKG : Hid (w.heap.size ≤ w5.heap.size) := Lib.hid HK.out.size
    clear hcs hmk h1
    generalize w5.alloc _ = w6 at H0 HK0 ⊢
    generalize w5.heap.size = g at H0 HKG ⊢
    simp only [Result.andThen_ok]
    go_wp2_with fail
    go_loopw [7] (fun vi wr => ∃ (i : Nat) (cs : Array Value), vi = .int .i64 i ∧ i ≤ 256 ∧ cs.size = 256 ∧ (∀ j, j < i → cs[j]? = some (.int .i64 (-1))) ∧ wr.heap[g]? = some (.cells cs 3 (0, 0)) ∧ Kept w wr) (fun vi _ => 256 - (intOf vi).toNat)
    case atStart => exact ⟨0, cs0, rfl, by omega, HCS.out, fun j hj => absurd hj (Nat.not_lt_zero _), H0.out, HK0.out⟩
    case round =>
      obtain ⟨i, cs, rfl, hi, hsz, hcs, hblk, hkr⟩ := hrel
      have HI := Lib.hid hi
      have HS := Lib.hid hsz
      have HC := Lib.hid hcs
      have HBK := Lib.hid hblk
      have HKr := Lib.hid hkr
      have hi0 : (0 : Int) ≤ i := by omega
      clear hi hsz hcs hblk hkr H0 HK0 HCS
      by_cases hlt : (i : Int) < 256
      · obtain ⟨x, hx⟩ : ∃ x, cs[i]? = some x := ⟨_, Array.getElem?_eq_getElem (by have := HS.out; omega)⟩
        have c0 := (blk_cell HBK.out i).trans hx
        have f0 : wr.frozen? ⟨g, i, none⟩ = false := blk_free HBK.out i
        clear hx
        go_wp2_with fail
        go_roundw
        case rel =>
          refine ⟨i + 1, cs.setIfInBounds i (.int .i64 (-1)), by go_num, by omega, by simpa using HS.out, fun j hj => ?_, set_blk HBK.out _, HKr.out.setCell (by exact HKG.out) _⟩
          rw [Array.getElem?_setIfInBounds]
          by_cases e : i = j
          · subst e
            have := HS.out
            simp; omega
          · rw [if_neg e]
            exact HC.out j (by omega)
        case measure => simp [intOf]; omega
      · have hi256 : i = 256 := by have := HI.out; omega
        subst hi256
        have HD : Hid (DfaAt ((wr.alloc (.cells #[.slice (some ⟨g, 0, none⟩) 256 256] 23)).alloc (.cells #[.int .i64 0] 3)) (.slice (some ⟨wr.heap.size, 0, none⟩) 1 1) (.slice (some ⟨wr.heap.size + 1, 0, none⟩) 1 1) noneD [.slice (some ⟨g, 0, none⟩) 256 256]) :=
          Lib.hid (noneD_at HS.out HC.out (blk_old _ _ (blk_old _ _ HBK.out)) (blk_old _ _ (blk_new _ _)) (by have := blk_new (wr.alloc (.cells #[.slice (some ⟨g, 0, none⟩) 256 256] 23)) (.cells #[.int .i64 0] 3); simpa using this))
        have HK7 := Lib.hid ((HKr.out.alloc (.cells #[.slice (some ⟨g, 0, none⟩) 256 256] 23)).alloc (.cells #[.int .i64 0] 3))
        clear HS HC HBK HI hlt
        go_wp2_with fail
        have hh := next_any _ _ noneD _ _ b z _ HD.out (HB.out.keep HK7.out) (by have := HBL.out; omega)
        rw [noneD_scan] at hh
        refine hh.mono ?_
        rintro e w7 ⟨rfl, hk7⟩
        have HK8 := Lib.hid (HK7.out.trans hk7)
        clear hk7 hh HD HK7
        go_wp2_with fail
        go_ret
        exact ⟨rfl, HK8.out⟩
end Go.Proofs.Ytjlhopfmhhafoaa
