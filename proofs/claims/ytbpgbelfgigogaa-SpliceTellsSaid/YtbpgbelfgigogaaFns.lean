/-
  What each function of package splice does, on values and memory.
-/
import Derived.Test.YtbpgbelfgigogaaProg
import Derived.Test.YtbpgbelfgigogaaBytes
import Derived.Test.YtbpgbelfgigogaaGrow
import Derived.KernelRfl
namespace Go.Proofs.Ytbpgbelfgigogaa
open Go Go.RowKit Kit
def cutI (x top : Int) : Int := max 0 (min x top)
theorem cutI_bd (x t : Int) : 0 ≤ cutI x t ∧ (0 ≤ t → cutI x t ≤ t) := by unfold cutI; omega
theorem info5 : (Try.prog.info? 5).map (fun i => (i.zero, i.size, i.bytes)) = some (some (.int .u8 0), 1, 1) := by kernel_rfl
theorem cut_any (x t : Int) (w : World) : Calls Try.prog 21 #[.int .i64 x, .int .i64 t] w fun e w' => e = .returned (.int .i64 (cutI x t)) ∧ w = w' := by
  have key : ∀ y : Int, y = cutI x t → Ending.returned (Value.int .i64 y) = Ending.returned (.int .i64 (cutI x t)) := fun y h => by rw [h]
  by_cases h1 : t < x <;> by_cases h2 : 0 < t <;> by_cases h3 : 0 < x
  all_goals
    go_enter Try.func21, Try.ntmps21
    go_wp2
  all_goals go_ret
  all_goals exact ⟨key _ (by unfold cutI; omega), rfl⟩

/-- A splice as a value. -/
def spl (p d : Int) (v : Value) : Value := .agg #[.int .i64 p, .int .i64 d, v]

theorem reach_any (n at' del : Int) (v : Value) (w : World) (hn : -9223372036854775808 ≤ n) (hn' : n ≤ 9223372036854775807) :
    Calls Try.prog 17 #[.int .i64 n, .agg #[.int .i64 at', .int .i64 del, v]] w fun e w' => e = .returned (.tuple #[.int .i64 (cutI at' n), .int .i64 (cutI del (n - cutI at' n))]) ∧ Kept w w' := by
  have h0 : n - cutI at' n ≤ 9223372036854775807 ∧ -9223372036854775808 ≤ n - cutI at' n := by unfold cutI; omega
  have hb := cutI_bd at' n
  generalize hc : cutI at' n = c at *
  have HC := Lib.hid hc
  clear hc
  go_enter Try.func17, Try.ntmps17
  go_wp2_with fail
  refine (cut_any _ _ _).mono ?_
  rintro e w' ⟨rfl, rfl⟩
  rw [HC.out]
  go_wp2_with fail
  refine (cut_any _ _ _).mono ?_
  rintro e w' ⟨rfl, rfl⟩
  go_wp2_with fail
  go_ret2
  exact ⟨rfl, (Kept.refl _).alloc _⟩

theorem fresh_any (v : Value) (l : List UInt8) (w : World) (hb : Bs w v l) (hl : l.length ≤ 140737488355328) :
    Calls Try.prog 18 #[v] w fun e w' => ∃ v', e = .returned v' ∧ Bs w' v' l ∧ Kept w w' := by
  obtain ⟨i0, hi, hz0, hz1, hz2⟩ := info_parts info5
  go_enter Try.func18, Try.ntmps18
  go_wp2_with (at_builtin; refine wpList_fresh _ rfl _ _ _ rfl 5 i0 _ Try.underlying22 hi hz0 hz1 hz2 rfl rfl v l rfl hb hl ?_; intro v' w' hb' hk')
  go_ret
  exact ⟨v', rfl, hb', hk'⟩

theorem same_any (at' del : Int) (l : List UInt8) (v1 v2 : Value) (w : World) (h1 : Bs w v1 l) (h2 : Bs w v2 l) :
    Calls Try.prog 8 #[.agg #[.int .i64 at', .int .i64 del, v1], .agg #[.int .i64 at', .int .i64 del, v2]] w fun e w' => e = .returned (.bool true) ∧ Kept w w' := by
  have k1 : ∀ o o', (convert 22 9 v1).run Try.prog ((w.alloc o).alloc o') = .ok (.string ⟨l.toArray⟩) ((w.alloc o).alloc o') := fun o o' => (h1.keep (((Kept.refl _).alloc _).alloc _)).str 22 9 5 Try.underlying22 Try.underlying5 Try.underlying9
  have k2 : ∀ o o', (convert 22 9 v2).run Try.prog ((w.alloc o).alloc o') = .ok (.string ⟨l.toArray⟩) ((w.alloc o).alloc o') := fun o o' => (h2.keep (((Kept.refl _).alloc _).alloc _)).str 22 9 5 Try.underlying22 Try.underlying5 Try.underlying9
  go_enter Try.func8, Try.ntmps8
  go_wp2
  go_ret
  exact ⟨rfl, ((Kept.refl _).alloc _).alloc _⟩

theorem clamp_any (n at' del : Int) (v : Value) (l : List UInt8) (w : World) (hn : -9223372036854775808 ≤ n) (hn' : n ≤ 9223372036854775807) (hb : Bs w v l) (hl : l.length ≤ 140737488355328) :
    Calls Try.prog 9 #[.int .i64 n, .agg #[.int .i64 at', .int .i64 del, v]] w fun e w' => ∃ v', e = .returned (.agg #[.int .i64 (cutI at' n), .int .i64 (cutI del (n - cutI at' n)), v']) ∧ Bs w' v' l ∧ Kept w w' := by
  have HR := fun w' : World => Lib.hid (reach_any n at' del v w' hn hn')
  generalize cutI at' n = p at *
  generalize cutI del (n - p) = d at *
  go_enter Try.func9, Try.ntmps9
  go_wp2_with fail
  refine (HR _).out.mono ?_
  rintro e w1 ⟨rfl, hk1⟩
  obtain ⟨⟨c0, c1, c2⟩, _⟩ := box3 (Kept.blk hk1 (blk_old _ _ (blk_new w _)))
  go_wp2_with fail
  refine (fresh_any _ l _ (hb.keep (Kept.trans (((Kept.refl _).alloc _).alloc _) hk1)) hl).mono ?_
  rintro e w2 ⟨v', rfl, hb2, hk2⟩
  obtain ⟨A, c, rfl⟩ := hb2.form
  have hB := Kept.blk hk2 (Kept.blk hk1 (blk_new (w.alloc _) _))
  simp only [World.size_alloc] at hB
  obtain ⟨⟨d0, d1, d2⟩, f0, f1, f2⟩ := box3 hB
  go_wp2_with fail
  refine bodyPost_ret (v := .agg #[.int .i64 p, .int .i64 d, .slice A l.length c]) ?_ rfl ⟨_, rfl, hb2.set3 (fun c => by simp [bv]) hB _ _ _, ?_⟩
  · simp [results, Try.results9, go_sem, d0, d1, d2]
  · exact (((Kept.trans (((Kept.refl _).alloc _).alloc _) (hk1.trans hk2)).setCell (by simp) _).setCell (by simp) _).setCell (by simp) _
theorem zeros_run (n : Nat) (w : World) (h0 : 0 < n) (hn : n ≤ 140737488355328) : ∃ (cs : Array Value) (G : Nat), cs.size = G ∧ n ≤ G ∧ G ≤ maxLen ∧ ∀ ty, (Builtin.append_ #[22, 3] ty #[.slice none 0 0, .int .i64 n]).run Try.prog w =
        .ok (.slice (some ⟨w.heap.size, 0, none⟩) n G) (w.drew.alloc (.cells cs 5)) := by
  obtain ⟨i0, hi, hz0, hz1, hz2⟩ := info_parts info5
  have hgc := grownCap_ge w n 0 5
  refine ⟨([] : List Value).toArray ++ Builtin.zeroCells (Value.int .u8 0).cells n ++ Builtin.zeroCells (Value.int .u8 0).cells (grownCap w n 0 5 - n), grownCap w n 0 5, ?_, hgc, grownCap_le_maxLen w n 0 5 (by unfold maxLen; omega), fun ty => ?_⟩
  rotate_left
  · have h := Lib.run_append_grow_zeros w 22 3 ty 5 i0 (.int .u8 0) .i64 .i64 Try.underlying22 Try.underlying3 hi hz0 none 0 0 [] (by simp [Builtin.firstCells]) n h0 (by omega) (by omega) (by omega) (by rw [hz2]; omega)
      (by rw [hz2, Nat.zero_add]; exact growslice_fits (old := 0) (need := n) (bytes := 1) (by omega) (by omega))
    rw [Nat.zero_add] at h
    exact h
  · simp [size_zeroCells, Value.cells]; omega
set_option maxHeartbeats 400000 in
theorem grow_nil (n : Nat) (w : World) (hn : n ≤ 140737488355328) :
    Calls Try.prog 22 #[.slice none 0 0, .int .i64 n] w fun e w' => ∃ v', e = .returned v' ∧ w'.ownsRow w.heap.size 5 1 v' 0 [] ∧ Kept w w' := by
  have h1 : ¬ ((n : Int) < 0) := by omega
  by_cases h0 : 0 < n
  · obtain ⟨cs, G, hcs, hgc, hcm, hrz⟩ := zeros_run n w h0 hn
    have hG0 : ¬ G = 0 := by omega
    have HS := Lib.hid hcs
    clear hcs
    go_enter Try.func22, Try.ntmps22
    go_wp2_with (at_builtin; refine wpList_app_run rfl _ _ _ _ rfl _ _ rfl rfl _ _ hrz ?_)
    go_ret
    refine ⟨_, rfl, World.ownsRow_made w.drew cs G (Nat.le_refl _) hcm (by rw [HS.out]; omega), (Kept.refl _).drew.alloc _⟩
  · obtain rfl : n = 0 := by omega
    go_enter Try.func22, Try.ntmps22
    go_wp2
    go_ret
    exact ⟨_, rfl, World.ownsRow_nil _ _ _ _, Kept.refl _⟩
def tot (ls : List (List UInt8)) (k : Nat) : Nat := ((ls.take k).flatten).length
theorem flat_succ (ls : List (List UInt8)) (k : Nat) (l : List UInt8) (h : ls[k]? = some l) : (ls.take (k + 1)).flatten = (ls.take k).flatten ++ l := by
  rw [List.take_add_one, h]; simp
theorem tot_succ (ls : List (List UInt8)) (k : Nat) (l : List UInt8) (h : ls[k]? = some l) : tot ls (k + 1) = tot ls k + l.length := by
  unfold tot; rw [flat_succ ls k l h, List.length_append]
theorem tot_le (ls : List (List UInt8)) (k : Nat) : tot ls k ≤ ls.flatten.length := by
  unfold tot
  have : ls.flatten = (ls.take k).flatten ++ (ls.drop k).flatten := by rw [← List.flatten_append, List.take_append_drop]
  rw [this, List.length_append]; omega
set_option maxHeartbeats 400000 in
theorem concat_any (b n : Nat) (vs : List Value) (ls : List (List UInt8)) (w : World) (hn : vs.length = n) (hn63 : n ≤ 1000000) (hl : ls.length = n) (hc : ∀ (j : Nat) (v : Value), vs[j]? = some v → w.cell? ⟨b, j, none⟩ = some v)
    (hB : ∀ (j : Nat) (v : Value) (l : List UInt8), vs[j]? = some v → ls[j]? = some l → Bs w v l) (ht : ls.flatten.length ≤ 140737488355328) :
    Calls Try.prog 20 #[.slice (some ⟨b, 0, none⟩) n n] w fun e w' => ∃ v', e = .returned v' ∧ Bs w' v' ls.flatten ∧ Kept w w' := by
  have HN := Lib.hid hn
  have HL := Lib.hid hl
  have HC := Lib.hid hc
  have HB := Lib.hid hB
  clear hn hl hc hB
  go_enter Try.func20, Try.ntmps20
  go_wp2
  go_loop [3, 5, 11] (fun s _ i => ∃ k : Nat, k ≤ n ∧ i = .int .i64 k ∧ s = .int .i64 (tot ls k)) (fun _ _ i => n - (intOf i).toNat)
  case atStart => exact ⟨0, Nat.zero_le _, rfl, rfl⟩
  case round =>
    obtain ⟨k, hk, rfl, rfl⟩ := hrel
    have hk1 := tot_le ls (k + 1)
    have hk0 := tot_le ls k
    by_cases hlt : k < n
    · obtain ⟨v, hv⟩ : ∃ v, vs[k]? = some v := ⟨_, List.getElem?_eq_getElem (by rw [HN.out]; exact hlt)⟩
      obtain ⟨l, hl⟩ : ∃ l, ls[k]? = some l := ⟨_, List.getElem?_eq_getElem (by rw [HL.out]; exact hlt)⟩
      obtain ⟨A, c, rfl⟩ := (HB.out k v l hv hl).form
      have hcell := HC.out k _ hv
      have hs := tot_succ ls k l hl
      have hs' : tot ls k + l.length ≤ 140737488355328 := by omega
      have HS := Lib.hid hs
      have HV := Lib.hid hv
      have HL2 := Lib.hid hl
      clear hs hv hl hk1
      go_wp2
      all_goals
        go_round
        case rel => exact ⟨k + 1, by omega, by go_num, by rw [HS.out]; go_num⟩
        case measure => simp [intOf]; omega
    · obtain rfl : n = k := by omega
      clear hk1
      go_wp2_with fail
      refine (grow_nil _ _ (by omega)).mono ?_
      rintro e w1 ⟨v0, rfl, hown0, hk1⟩
      have H0 : Hid (Kept w w1) := hk1
      have HO : Hid (w1.ownsRow w.heap.size 5 1 v0 0 []) := hown0
      clear hk1 hown0
      go_wp2
      go_loopw [6, 8, 27] (fun ns _ i wr => ∃ j : Nat, j ≤ n ∧ i = .int .i64 j ∧ wr.ownsRow w.heap.size 5 1 ns (tot ls j) ((ls.take j).flatten.map bv) ∧ Kept w wr) (fun _ _ i _ => n - (intOf i).toNat)
      case atStart => exact ⟨0, Nat.zero_le _, rfl, HO.out, H0.out⟩
      case round =>
        obtain ⟨j, hj, rfl, hown, hkw⟩ := hrel
        have hj0 := tot_le ls j
        have HK := Lib.hid hkw
        have HW := Lib.hid hown
        clear hkw hown
        by_cases hlt2 : j < n
        · obtain ⟨v, hv⟩ : ∃ v, vs[j]? = some v := ⟨_, List.getElem?_eq_getElem (by rw [HN.out]; exact hlt2)⟩
          obtain ⟨l, hl⟩ : ∃ l, ls[j]? = some l := ⟨_, List.getElem?_eq_getElem (by rw [HL.out]; exact hlt2)⟩
          have hbs := HB.out j v l hv hl
          obtain ⟨A, c, rfl⟩ := hbs.form
          have hcell := HK.out.cell (HC.out j _ hv)
          have hs := tot_succ ls j l hl
          have hs1 := tot_le ls (j + 1)
          have hs' : tot ls j + l.length ≤ 140737488355328 := by omega
          have HS := Lib.hid hs
          have HF := Lib.hid (flat_succ ls j l hl)
          have HBS := Lib.hid (hbs.keep HK.out)
          clear hs hv hl hs1 hbs
          obtain ⟨i0, hi, hz0, hz1, hz2⟩ := info_parts info5
          go_wp2_with (at_builtin; refine wpList_app _ rfl _ _ _ rfl w.heap.size 5 i0 _ Try.underlying22 hi hz0 hz1 hz2 rfl u6 (tot ls j) ((ls.take j).flatten) rfl HW.out (.slice A l.length c) l rfl HBS.out hs' HK.out.size ?_; intro v1 w2 hown2 hg2 hat2)
          refine ⟨⟨j + 1, by omega, by go_num, ?_, ?_⟩, by simp [intOf]; omega⟩
          · rw [HS.out, HF.out]; exact hown2
          · exact Below.grown HK.out hg2 HK.out.size (fun k hk => (HW.out.lt k hk).1)
        · obtain rfl : n = j := by omega
          have hfin : Bs wr u6 ls.flatten := by
            have h := HW.out
            rw [List.take_of_length_le (by rw [HL.out]; omega)] at h
            exact Bs.of_own h
          have HF := Lib.hid hfin
          clear hfin
          go_wp2
          go_ret
          exact ⟨u6, rfl, HF.out, HK.out⟩
end Go.Proofs.Ytbpgbelfgigogaa
