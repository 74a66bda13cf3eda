/-
  The document's walk over a pattern, whole, and its Posits. Conditions: the pattern is less than 10^12 deep.
-/
import Derived.Test.YtdbffbdpofodmaaRst
import Derived.Test.YtdbffbdpofodmaaRw1
set_option linter.unusedSimpArgs false
namespace Go.Proofs.Ytdbffbdpofodmaa
open Go Go.RowKit Kit
theorem rwalk_any (g : Nat) : ∀ x : Rx, WkAny g x
  | .mk op x kids => by
    have IH : ∀ y ∈ kids, WkAny g y := fun y hy => rwalk_any g y
    intro w u vS vF fs st hx hm hok hS
    obtain ⟨A, cap, rfl, hkl⟩ := hx.form
    by_cases h1 : op = 1
    · rw [wk, if_pos h1]
      rw [cnt, if_pos h1] at hS
      exact rwalk_set g w op x kids A cap vS vF fs st hx hkl hm h1 (by omega) hok.1
    by_cases h0 : op < 2
    · rw [wk, if_neg h1, if_neg (by omega), if_neg (by omega), if_neg (by omega)]
      exact rwalk_lo g w op x kids A cap vS vF fs st hx hkl hm hok h1 h0
    by_cases h7 : 6 < op
    · rw [wk, if_neg h1, if_neg (by omega), if_neg (by omega), if_neg (by omega)]
      exact rwalk_hi g w op x kids A cap vS vF fs st hx hkl hm hok h7
    by_cases h2 : op = 2
    · rw [wk, if_neg h1, if_pos h2]
      rw [cnt, if_neg h1, if_pos (.inl h2)] at hS
      by_cases hk : kids.length = 0
      · have e : wkCat kids nullP st = (nullP, st) := by rw [List.length_eq_zero_iff.1 hk, wkCat]
        rw [e]
        exact rwalk_none2 g w op x kids A cap vS vF fs st hx hkl hm hok h2 hk
      · exact rwalk_cat g w op x kids A cap vS vF fs st hx hkl hm hok IH h2 hk hS _ (Lib.hid rfl)
    by_cases h3 : op = 3
    · rw [wk, if_neg h1, if_neg h2, if_pos h3]
      rw [cnt, if_neg h1, if_pos (.inr h3)] at hS
      by_cases hk : kids.length = 0
      · rw [if_pos (List.length_eq_zero_iff.1 hk)]
        exact rwalk_none3 g w op x kids A cap vS vF fs st hx hkl hm hok h3 hk
      · rw [if_neg (fun e => hk (by rw [e]; rfl))]
        exact rwalk_alt g w op x kids A cap vS vF fs st hx hkl hm hok IH h3 hk hS _ (Lib.hid rfl)
    have h456 : op = 4 ∨ op = 5 ∨ op = 6 := by omega
    rw [wk, if_neg h1, if_neg h2, if_neg h3, if_pos h456]
    rw [cnt, if_neg h1, if_neg (by omega), if_pos h456] at hS
    by_cases hk : kids.length = 0
    · have e : wk1 op kids st = (nullP, st) := by rw [List.length_eq_zero_iff.1 hk, wk1]
      rw [e]
      rcases h456 with h | h | h
      · exact rwalk_none4 g w op x kids A cap vS vF fs st hx hkl hm hok h hk
      · exact rwalk_none5 g w op x kids A cap vS vF fs st hx hkl hm hok h hk
      · exact rwalk_none6 g w op x kids A cap vS vF fs st hx hkl hm hok h hk
    · obtain ⟨y, hy⟩ : ∃ y, kids[0]? = some y := ⟨_, List.getElem?_eq_getElem (by omega)⟩
      have hc : cnt1 kids = cnt y := by
        match kids, hy with
        | a :: r, hy => simp only [List.getElem?_cons_zero, Option.some.injEq] at hy; rw [cnt1, hy]
      rw [hc] at hS
      rcases h456 with h | h | h
      · exact rwalk_one4 g w op x kids A cap vS vF fs st hx hkl hm hok IH h y hy hS _ (Lib.hid (by rw [h]))
      · exact rwalk_one5 g w op x kids A cap vS vF fs st hx hkl hm hok IH h y hy hS _ (Lib.hid (by rw [h]))
      · exact rwalk_one6 g w op x kids A cap vS vF fs st hx hkl hm hok IH h y hy hS _ (Lib.hid (by rw [h]))
termination_by x => SizeOf.sizeOf x
decreasing_by
  have := List.sizeOf_lt_of_mem hy
  simp only [Rx.mk.sizeOf_spec]
  omega
/-- A row of sets that is read. -/
def LsN (S : Nat → Prop) (w : World) (v : Value) (sets : List (BitVec 256)) : Prop :=
  ∃ A cap, v = .slice A sets.length cap ∧ sets.length ≤ cap ∧ cap ≤ maxLen ∧ ∀ (j : Nat) (s : BitVec 256), sets[j]? = some s → ∃ k o, A = some ⟨k, o, none⟩ ∧ S k ∧ w.cell? ⟨k, o + j * 4, none⟩ = some (.int .u64 (wdN s 0)) ∧ w.cell? ⟨k, o + j * 4 + 1, none⟩ = some (.int .u64 (wdN s 1)) ∧ w.cell? ⟨k, o + j * 4 + 2, none⟩ = some (.int .u64 (wdN s 2)) ∧ w.cell? ⟨k, o + j * 4 + 3, none⟩ = some (.int .u64 (wdN s 3))
/-- A row of lists of numbers that is read. -/
def LsL (S : Nat → Prop) (w : World) (v : Value) (ls : List (List Nat)) : Prop :=
  ∃ fs : List Value, Ls S w v fs ∧ fs.length = ls.length ∧ ∀ (i : Nat) (f : Value) (l : List Nat), fs[i]? = some f → ls[i]? = some l → Ls S w f (ints l)
theorem LsN.keep {S S' : Nat → Prop} {w w' : World} {v : Value} {sets : List (BitVec 256)} (h : LsN S w v sets) (hk : ∀ k, k < w.heap.size → S k → S' k ∧ w'.heap[k]? = w.heap[k]?) : LsN S' w' v sets := by
  obtain ⟨A, cap, e, h1, h2, h3⟩ := h
  refine ⟨A, cap, e, h1, h2, fun j s hj => ?_⟩
  obtain ⟨k, o, ea, hs, c0, c1, c2, c3⟩ := h3 j s hj
  obtain ⟨hs', hb⟩ := hk k (World.block_lt_of_cell? w _ c0) hs
  exact ⟨k, o, ea, hs', (World.cell?_of_block hb).trans c0, (World.cell?_of_block hb).trans c1, (World.cell?_of_block hb).trans c2, (World.cell?_of_block hb).trans c3⟩
theorem LsL.keep {S S' : Nat → Prop} {w w' : World} {v : Value} {ls : List (List Nat)} (h : LsL S w v ls) (hk : ∀ k, k < w.heap.size → S k → S' k ∧ w'.heap[k]? = w.heap[k]?) : LsL S' w' v ls := by
  obtain ⟨fs, h1, h2, h3⟩ := h
  exact ⟨fs, h1.keep hk, h2, fun i f l hf hl => (h3 i f l hf hl).keep hk⟩
/-- The value reads as places. -/
def PosAt (S : Nat → Prop) (w : World) (v : Value) (p : Pt) (st : Ps) : Prop :=
  ∃ vS vf vl vF, v = .agg #[vS, .bool p.null, vf, vl, vF] ∧ LsN S w vS st.sets ∧ Ls S w vf (ints p.first) ∧ Ls S w vl (ints p.last) ∧ LsL S w vF st.fol
theorem PosAt.keep {S S' : Nat → Prop} {w w' : World} {v : Value} {p : Pt} {st : Ps} (h : PosAt S w v p st) (hk : ∀ k, k < w.heap.size → S k → S' k ∧ w'.heap[k]? = w.heap[k]?) : PosAt S' w' v p st := by
  obtain ⟨vS, vf, vl, vF, e, h1, h2, h3, h4⟩ := h
  exact ⟨vS, vf, vl, vF, e, h1.keep hk, h2.keep hk, h3.keep hk, h4.keep hk⟩
theorem PosAt.kept {S : Nat → Prop} {w w' : World} {v : Value} {p : Pt} {st : Ps} (h : PosAt S w v p st) (hk : Kept w w') : PosAt S w' v p st := h.keep fun k hk' hs => ⟨hs, hk.block k hk'⟩
theorem Kit.Rn.lsN {base : Nat} {w : World} {v : Value} {sets : List (BitVec 256)} (h : Rn 23 4 base w v (sets.map c4)) : LsN (fun k => v.ownBlock = some k ∧ base ≤ k) w v sets := by
  rcases h.1.2 with ⟨ev, h0⟩ | ⟨b, cap, cur, ev, h1, h2, h3, h4, h5, h6⟩
  · have h0' : sets = [] := by simpa using h0
    subst h0'
    exact ⟨none, 0, ev, Nat.le_refl _, Nat.zero_le _, fun j s hj => by simp at hj⟩
  · subst ev
    have hc := h.at.2
    rw [List.length_map] at h3 ⊢
    refine ⟨_, cap, rfl, h3, h4, fun j s hj => ?_⟩
    have hj' : (sets.map c4)[j]? = some (c4 s) := by rw [List.getElem?_map, hj]; rfl
    refine ⟨b, 0, rfl, ⟨rfl, h1⟩, ?_, ?_, ?_, ?_⟩
    · have := hc j 0 _ _ hj' rfl; simpa using this
    · have := hc j 1 _ _ hj' rfl; simpa using this
    · have := hc j 2 _ _ hj' rfl; simpa using this
    · have := hc j 3 _ _ hj' rfl; simpa using this
/-- What a maker holds. -/
theorem StM.pos {g : Nat} {w : World} {vS vF vf vl : Value} {fs : List Value} {st : Ps} {p : Pt} (h : StM g w vS vF fs st) (hf : Ls (fun k => g < k ∧ ¬ own2 vS vF k) w vf (ints p.first)) (hl : Ls (fun k => g < k ∧ ¬ own2 vS vF k) w vl (ints p.last)) : PosAt (g < ·) w (.agg #[vS, .bool p.null, vf, vl, vF]) p st :=
  ⟨vS, vf, vl, vF, rfl, h.sets.lsN.keep fun k _ hs => ⟨by omega, rfl⟩, hf.weak fun k _ hs => hs.1, hl.weak fun k _ hs => hs.1, fs, h.fol.ls.weak fun k _ hs => by omega, h.len, fun i f l hf hl => (h.each i f l hf hl).weak fun k _ hs => hs.1⟩
def zpos : Value := .agg #[.slice none 0 0, .bool false, .slice none 0 0, .slice none 0 0, .slice none 0 0]
def PosSaid (x : Rx) (w : World) (e : Ending) (w' : World) : Prop :=
  (150 < cnt x → e = .returned (.tuple #[zpos, .int .i64 3])) ∧ (¬ 150 < cnt x → 200 < deep x → e = .returned (.tuple #[zpos, .int .i64 4])) ∧
  (¬ 150 < cnt x → ¬ 200 < deep x → ∃ v, e = .returned (.tuple #[v, .int .i64 0]) ∧ PosAt (w.heap.size ≤ ·) w' v (wk x ⟨[], []⟩).1 (wk x ⟨[], []⟩).2) ∧ Kept w w'
set_option maxRecDepth 100000 in
set_option maxHeartbeats 16000000 in
theorem posits_long {S : Nat → Prop} (w : World) (u : Value) (op : Int) (x : BitVec 256) (kids : List Rx) (hx : RxAt S w u (.mk op x kids)) (hd : deep (.mk op x kids) ≤ 1000000000000) (hc : 150 < cnt (.mk op x kids)) : Calls Try.prog 11 #[u] w (PosSaid (.mk op x kids) w) := by
  obtain ⟨A, cap, rfl, hkl⟩ := hx.form
  have HK1 : Hid (Kept w ((w.alloc (.cells #[.int .i64 op, .int .u64 (wdN x 0), .int .u64 (wdN x 1), .int .u64 (wdN x 2), .int .u64 (wdN x 3), .slice A kids.length cap] 26)).alloc (.cells #[.slice none 0 0, .bool false, .slice none 0 0, .slice none 0 0, .slice none 0 0] 33))) := Lib.hid (((Kept.refl _).alloc _).alloc _)
  have HR := Lib.hid (alloc2 w (.cells #[.int .i64 op, .int .u64 (wdN x 0), .int .u64 (wdN x 1), .int .u64 (wdN x 2), .int .u64 (wdN x 3), .slice A kids.length cap] 26) (.cells #[.slice none 0 0, .bool false, .slice none 0 0, .slice none 0 0, .slice none 0 0] 33))
  have HP := Lib.hid (places_any hx _ HK1.out (by omega))
  have HX := Lib.hid hx
  clear hx
  unfold rx6 at *
  go_enter Try.func11, Try.ntmps11
  go_wp2_with fail
  generalize (w.alloc _).alloc _ = W at HK1 HR HP ⊢
  obtain ⟨B, hB⟩ : ∃ B, w.heap.size = B := ⟨_, rfl⟩
  rw [hB] at HR ⊢
  obtain ⟨r, hrr⟩ : ∃ r, B + 1 = r := ⟨_, rfl⟩
  rw [hrr] at HR ⊢
  refine HP.out.mono ?_
  rintro e w2 ⟨n, rfl, q1, q2, -, hk2⟩
  have HK2 := Lib.hid (HK1.out.trans hk2)
  have HB2 := Lib.hid (And.intro (hk2.blk HR.out.1) (hk2.blk HR.out.2.1))
  clear hk2 HK1 HR HP
  have hn : 150 < n := by
    rcases Nat.lt_or_ge 150 n with h | h
    · exact h
    · have := q1 h; omega
  have hni : (150 : Int) < n := by omega
  have HC := Lib.hid hc
  clear q1 q2 hc
  obtain ⟨⟨d0, d1, d2, d3, d4⟩, g0, g1, g2, g3, g4⟩ := box5 HB2.out.2
  go_wp2_with fail
  refine bodyPost_ret (v := .tuple #[zpos, .int .i64 3]) ?_ rfl ?_
  · simp [results, Try.results11, go_sem, zpos, d0, d1, d2, d3, d4]
  · have hBr : w.heap.size ≤ r := by omega
    exact ⟨fun _ => rfl, fun h => absurd HC.out h, fun h => absurd HC.out h, (((((HK2.out.setCell hBr _).setCell hBr _).setCell hBr _).setCell hBr _).setCell hBr _)⟩
set_option maxRecDepth 100000 in
set_option maxHeartbeats 16000000 in
theorem posits_deep {S : Nat → Prop} (w : World) (u : Value) (op : Int) (x : BitVec 256) (kids : List Rx) (hx : RxAt S w u (.mk op x kids)) (hd : deep (.mk op x kids) ≤ 1000000000000) (hc : ¬ 150 < cnt (.mk op x kids)) (hdp : 200 < deep (.mk op x kids)) : Calls Try.prog 11 #[u] w (PosSaid (.mk op x kids) w) := by
  obtain ⟨A, cap, rfl, hkl⟩ := hx.form
  have HK1 : Hid (Kept w ((w.alloc (.cells #[.int .i64 op, .int .u64 (wdN x 0), .int .u64 (wdN x 1), .int .u64 (wdN x 2), .int .u64 (wdN x 3), .slice A kids.length cap] 26)).alloc (.cells #[.slice none 0 0, .bool false, .slice none 0 0, .slice none 0 0, .slice none 0 0] 33))) := Lib.hid (((Kept.refl _).alloc _).alloc _)
  have HR := Lib.hid (alloc2 w (.cells #[.int .i64 op, .int .u64 (wdN x 0), .int .u64 (wdN x 1), .int .u64 (wdN x 2), .int .u64 (wdN x 3), .slice A kids.length cap] 26) (.cells #[.slice none 0 0, .bool false, .slice none 0 0, .slice none 0 0, .slice none 0 0] 33))
  have HP := Lib.hid (places_any hx _ HK1.out (by omega))
  have HX := Lib.hid hx
  clear hx
  unfold rx6 at *
  go_enter Try.func11, Try.ntmps11
  go_wp2_with fail
  generalize (w.alloc _).alloc _ = W at HK1 HR HP ⊢
  obtain ⟨B, hB⟩ : ∃ B, w.heap.size = B := ⟨_, rfl⟩
  rw [hB] at HR ⊢
  obtain ⟨r, hrr⟩ : ∃ r, B + 1 = r := ⟨_, rfl⟩
  rw [hrr] at HR ⊢
  refine HP.out.mono ?_
  rintro e w2 ⟨n, rfl, q1, q2, -, hk2⟩
  have HK2 := Lib.hid (HK1.out.trans hk2)
  have HB2 := Lib.hid (And.intro (hk2.blk HR.out.1) (hk2.blk HR.out.2.1))
  clear hk2 HK1 HR HP
  have hn : n = cnt (.mk op x kids) := by
    rcases Nat.lt_or_ge 150 n with h | h
    · have := q2 h; omega
    · exact q1 h
  have hni : (n : Int) ≤ 150 := by omega
  have HC := Lib.hid (And.intro hc hn)
  clear q1 q2 hc hn
  obtain ⟨⟨a0, a1, a2, a3, a4, a5⟩, -⟩ := box6 HB2.out.1
  have HD := Lib.hid (deep_any HX.out w2 HK2.out hd)
  unfold rx6 at HD
  go_wp2_with fail
  clear a0 a1 a2 a3 a4 a5
  refine HD.out.mono ?_
  rintro e w3 ⟨rfl, hk3⟩
  have HK3 := Lib.hid (HK2.out.trans hk3)
  have HB3 := Lib.hid (And.intro (hk3.blk HB2.out.1) (hk3.blk HB2.out.2))
  clear hk3 HK2 HB2 HD
  obtain ⟨m, hm⟩ : ∃ m, deep (.mk op x kids) = m := ⟨_, rfl⟩
  rw [hm]
  have hmi : (200 : Int) < m := by omega
  have HM := Lib.hid hm
  clear hm
  obtain ⟨⟨d0, d1, d2, d3, d4⟩, g0, g1, g2, g3, g4⟩ := box5 HB3.out.2
  go_wp2_with fail
  refine bodyPost_ret (v := .tuple #[zpos, .int .i64 4]) ?_ rfl ?_
  · simp [results, Try.results11, go_sem, zpos, d0, d1, d2, d3, d4]
  · have hBr : w.heap.size ≤ r := by omega
    exact ⟨fun h => absurd h HC.out.1, fun _ _ => rfl, fun _ h => absurd hdp h, (((((HK3.out.setCell hBr _).setCell hBr _).setCell hBr _).setCell hBr _).setCell hBr _)⟩
theorem Mv.above {g : Nat} {O O' : Nat → Prop} {w W w' : World} (h : Mv g O W w' O') (hk : Kept w W) (hg : w.heap.size ≤ g) (hO : ∀ k, O k → w.heap.size ≤ k) : Kept w w' :=
  ⟨h.1.trans hk.os, h.2.1.trans hk.tape, h.2.2.1.trans hk.output, Nat.le_trans hk.size h.2.2.2.1, fun k hk' => ((h.2.2.2.2 k (Nat.lt_of_lt_of_le hk' hk.size) (by omega) (fun ho => by have := hO k ho; omega)).1).trans (hk.block k hk')⟩
theorem StM.init {g : Nat} {w : World} (h : w.heap[g]? = some (MO (.slice none 0 0) (.slice none 0 0))) : StM g w (.slice none 0 0) (.slice none 0 0) [] ⟨[], []⟩ :=
  ⟨h, Rn.nil _ _ _ _, R1.nil _ _ _, rfl, fun i f l hf => by simp at hf, fun k hk => by cases hk⟩
set_option maxRecDepth 100000 in
set_option maxHeartbeats 16000000 in
theorem posits_ok {S : Nat → Prop} (w : World) (u : Value) (op : Int) (x : BitVec 256) (kids : List Rx) (hx : RxAt S w u (.mk op x kids)) (hd : deep (.mk op x kids) ≤ 1000000000000) (hc : ¬ 150 < cnt (.mk op x kids)) (hdp : ¬ 200 < deep (.mk op x kids)) : Calls Try.prog 11 #[u] w (PosSaid (.mk op x kids) w) := by
  obtain ⟨A, cap, rfl, hkl⟩ := hx.form
  have HK1 : Hid (Kept w ((w.alloc (.cells #[.int .i64 op, .int .u64 (wdN x 0), .int .u64 (wdN x 1), .int .u64 (wdN x 2), .int .u64 (wdN x 3), .slice A kids.length cap] 26)).alloc (.cells #[.slice none 0 0, .bool false, .slice none 0 0, .slice none 0 0, .slice none 0 0] 33))) := Lib.hid (((Kept.refl _).alloc _).alloc _)
  have HR := Lib.hid (alloc2 w (.cells #[.int .i64 op, .int .u64 (wdN x 0), .int .u64 (wdN x 1), .int .u64 (wdN x 2), .int .u64 (wdN x 3), .slice A kids.length cap] 26) (.cells #[.slice none 0 0, .bool false, .slice none 0 0, .slice none 0 0, .slice none 0 0] 33))
  have HP := Lib.hid (places_any hx _ HK1.out (by omega))
  have HX := Lib.hid hx
  clear hx
  unfold rx6 at *
  go_enter Try.func11, Try.ntmps11
  go_wp2_with fail
  generalize (w.alloc _).alloc _ = W at HK1 HR HP ⊢
  obtain ⟨B, hB⟩ : ∃ B, w.heap.size = B := ⟨_, rfl⟩
  rw [hB] at HR ⊢
  obtain ⟨r, hrr⟩ : ∃ r, B + 1 = r := ⟨_, rfl⟩
  rw [hrr] at HR ⊢
  refine HP.out.mono ?_
  rintro e w2 ⟨n, rfl, q1, q2, -, hk2⟩
  have HK2 := Lib.hid (HK1.out.trans hk2)
  have HB2 := Lib.hid (And.intro (hk2.blk HR.out.1) (hk2.blk HR.out.2.1))
  clear hk2 HK1 HR HP
  have hn : n = cnt (.mk op x kids) := by
    rcases Nat.lt_or_ge 150 n with h | h
    · have := q2 h; omega
    · exact q1 h
  have hni : (n : Int) ≤ 150 := by omega
  have HC := Lib.hid (And.intro hc hn)
  clear q1 q2 hc hn
  obtain ⟨⟨a0, a1, a2, a3, a4, a5⟩, -⟩ := box6 HB2.out.1
  have HD := Lib.hid (deep_any HX.out w2 HK2.out hd)
  unfold rx6 at HD
  go_wp2_with fail
  clear a0 a1 a2 a3 a4 a5
  refine HD.out.mono ?_
  rintro e w3 ⟨rfl, hk3⟩
  have HK3 := Lib.hid (HK2.out.trans hk3)
  have HB3 := Lib.hid (And.intro (hk3.blk HB2.out.1) (hk3.blk HB2.out.2))
  clear hk3 HK2 HB2 HD
  obtain ⟨m, hm⟩ : ∃ m, deep (.mk op x kids) = m := ⟨_, rfl⟩
  rw [hm]
  have hmi : (m : Int) ≤ 200 := by omega
  have HM := Lib.hid (And.intro hm hdp)
  clear hm hdp
  obtain ⟨⟨a0, a1, a2, a3, a4, a5⟩, -⟩ := box6 HB3.out.1
  have hg3 := blk_new w3 (.cells #[.slice none 0 0, .bool false, .slice none 0 0, .slice none 0 0, .slice none 0 0] 71)
  have HK4 := Lib.hid (HK3.out.alloc (.cells #[.slice none 0 0, .bool false, .slice none 0 0, .slice none 0 0, .slice none 0 0] 71))
  have hB3 := blk_lt HB3.out.1
  have hr3 := blk_lt HB3.out.2
  have HB4 := Lib.hid (blk_old w3 (.cells #[.slice none 0 0, .bool false, .slice none 0 0, .slice none 0 0, .slice none 0 0] 71) HB3.out.2)
  have hw3 : w.heap.size ≤ w3.heap.size := HK3.out.size
  have HQ := Lib.hid (rwalk_any w3.heap.size (.mk op x kids) _ _ _ _ [] ⟨[], []⟩ (((HX.out.weak (S' := (· < w.heap.size)) (fun k hk _ => hk)).kept HK4.out).weak (S' := (· < w3.heap.size)) (fun k _ hk => Nat.lt_of_lt_of_le hk hw3)) (StM.init hg3) ⟨rfl, fun l hl => by simp at hl⟩ (by have := HC.out.1; simp only [List.length_nil]; omega))
  unfold ptr at HQ
  go_wp2_with fail
  clear a0 a1 a2 a3 a4 a5
  refine HQ.out.mono ?_
  rintro e w5 ⟨vf, vl, vS, vF, fs, rfl, hf, hl, hm5, hv5⟩
  clear HQ
  generalize hwk : wk (.mk op x kids) ⟨[], []⟩ = res at hf hl hm5 ⊢
  obtain ⟨⟨pn, pf, pl⟩, st⟩ := res
  simp only at hf hl hm5 ⊢
  obtain ⟨A3, c3, rfl⟩ := hf.form
  obtain ⟨A4, c4', rfl⟩ := hl.form
  rw [ints_len] at hf hl
  simp only [ints_len]
  have HPOS := Lib.hid (hm5.pos (p := ⟨pn, pf, pl⟩) hf hl)
  obtain ⟨AS, capS, rfl⟩ := hm5.sets.form
  simp only [List.length_map] at HPOS hm5 ⊢
  obtain ⟨AF, capF, rfl⟩ := hm5.fol.form
  have hbr := (hv5.blk HB4.out (by omega) (fun h => by rcases h with h | h <;> cases h)).1
  have hrw := blk_lt hbr
  have hgw := blk_lt hm5.obj
  have hG3 : ¬ r = w3.heap.size := by omega
  obtain ⟨⟨d0, d1, d2, d3, d4⟩, g0, g1, g2, g3, g4⟩ := box5 hbr
  obtain ⟨⟨m0, m1, m2, m3, m4⟩, f0, f1, f2, f3, f4⟩ := box5 hm5.obj
  have HV := Lib.hid (And.intro hv5 hwk)
  clear hf hl hm5 hv5 hbr hwk
  obtain ⟨G, hG⟩ : ∃ G, w3.heap.size = G := ⟨_, rfl⟩
  simp only [hG] at m0 m1 m2 m3 m4 f0 f1 f2 f3 f4 hgw hG3 HPOS HV hB3 hr3 hw3 ⊢
  go_wp2_with fail
  refine bodyPost_ret (v := .tuple #[.agg #[.slice AS st.sets.length capS, .bool pn, .slice A3 pf.length c3, .slice A4 pl.length c4', .slice AF fs.length capF], .int .i64 0]) ?_ rfl ?_
  · simp [results, Try.results11, go_sem, d0, d1, d2, d3, d4, hrw, hgw]
  · have hBr : w.heap.size ≤ r := by omega
    have hBG : w.heap.size ≤ G := by omega
    have hsame : ∀ k, k ≠ G → k ≠ r → (((((((((w5.setCell ⟨G, 1, none⟩ (.bool pn)).setCell ⟨G, 2, none⟩ (.slice A3 pf.length c3)).setCell ⟨G, 3, none⟩ (.slice A4 pl.length c4')).setCell ⟨r, 0, none⟩ (.slice AS st.sets.length capS)).setCell ⟨r, 1, none⟩ (.bool pn)).setCell ⟨r, 2, none⟩ (.slice A3 pf.length c3)).setCell ⟨r, 3, none⟩ (.slice A4 pl.length c4')).setCell ⟨r, 4, none⟩ (.slice AF fs.length capF))).heap[k]? = w5.heap[k]? := fun k h1 h2 =>
      (set_other h2).trans ((set_other h2).trans ((set_other h2).trans ((set_other h2).trans ((set_other h2).trans ((set_other h1).trans ((set_other h1).trans (set_other h1)))))))
    have hk5 : Kept w w5 := HV.out.1.above HK4.out hBG (fun k hk => by rcases hk with hk | hk <;> cases hk)
    have hkE : Kept w (((((((((w5.setCell ⟨G, 1, none⟩ (.bool pn)).setCell ⟨G, 2, none⟩ (.slice A3 pf.length c3)).setCell ⟨G, 3, none⟩ (.slice A4 pl.length c4')).setCell ⟨r, 0, none⟩ (.slice AS st.sets.length capS)).setCell ⟨r, 1, none⟩ (.bool pn)).setCell ⟨r, 2, none⟩ (.slice A3 pf.length c3)).setCell ⟨r, 3, none⟩ (.slice A4 pl.length c4')).setCell ⟨r, 4, none⟩ (.slice AF fs.length capF))) := (((((((hk5.setCell hBG _).setCell hBG _).setCell hBG _).setCell hBr _).setCell hBr _).setCell hBr _).setCell hBr _).setCell hBr _
    refine ⟨fun h => absurd h HC.out.1, fun _ h => absurd h (by rw [HM.out.1] at *; exact HM.out.2), fun _ _ => ⟨_, rfl, ?_⟩, hkE.alloc _⟩
    rw [HV.out.2]
    refine PosAt.kept (w := ((((((((w5.setCell ⟨G, 1, none⟩ (.bool pn)).setCell ⟨G, 2, none⟩ (.slice A3 pf.length c3)).setCell ⟨G, 3, none⟩ (.slice A4 pl.length c4')).setCell ⟨r, 0, none⟩ (.slice AS st.sets.length capS)).setCell ⟨r, 1, none⟩ (.bool pn)).setCell ⟨r, 2, none⟩ (.slice A3 pf.length c3)).setCell ⟨r, 3, none⟩ (.slice A4 pl.length c4')).setCell ⟨r, 4, none⟩ (.slice AF fs.length capF))) (PosAt.keep (S := (G < ·)) (S' := (w.heap.size ≤ ·)) HPOS.out fun k hk hs => ⟨by omega, hsame k (by omega) (by omega)⟩) ((Kept.refl _).alloc _)
theorem Posits_any {S : Nat → Prop} (w : World) (u : Value) (x : Rx) (hx : RxAt S w u x) (hd : deep x ≤ 1000000000000) : Calls Try.prog 11 #[u] w (PosSaid x w) := by
  obtain ⟨op, s, kids⟩ := x
  by_cases hc : 150 < cnt (.mk op s kids)
  · exact posits_long w u op s kids hx hd hc
  · by_cases hdp : 200 < deep (.mk op s kids)
    · exact posits_deep w u op s kids hx hd hc hdp
    · exact posits_ok w u op s kids hx hd hc hdp
end Go.Proofs.Ytdbffbdpofodmaa
