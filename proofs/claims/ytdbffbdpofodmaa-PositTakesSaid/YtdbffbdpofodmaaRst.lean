/-
  What the document's walk makes of a set. Conditions: there are at most 150 places.
-/
import Derived.Test.YtdbffbdpofodmaaWs
set_option linter.unusedSimpArgs false
namespace Go.Proofs.Ytdbffbdpofodmaa
open Go Go.RowKit Kit
theorem ups_ok {P : Program} {R : Value → World → Prop} {r : Result Next} {v : Value} {w' : World} (h : r = .ok (.value v) w') (hR : R v w') : Ups P R r := by rw [h]; exact hR
theorem set_other {w : World} {k i q : Nat} {u : Value} (h : q ≠ k) : (w.setCell ⟨k, i, none⟩ u).heap[q]? = w.heap[q]? := by
  have : ¬ k = q := fun e => h e.symm
  simp [World.setCell, Array.getElem?_modify, this]
theorem Kit.Ls.one {S : Nat → Prop} {w : World} {k n : Nat} (h : w.heap[k]? = some (.cells #[.int .i64 (n : Nat)] 3 (0, 0))) (hs : S k) : Ls S w (.slice (some ⟨k, 0, none⟩) 1 1) (ints [n]) :=
  ⟨_, 1, rfl, Nat.le_refl _, by decide, fun j y hj => ⟨k, 0, rfl, hs, by
    match j, hj with
    | 0, hj =>
      simp only [ints, List.map_cons, List.getElem?_cons_zero, Option.some.injEq] at hj
      subst hj
      rw [blk_cell h]; rfl⟩⟩
theorem StM.more {g : Nat} {W W' : World} {vS vF v : Value} {fs : List Value} {st : Ps} {x : BitVec 256} (h : StM g W vS vF fs st) (hg : W.grownBy W' vS.ownBlock) (hr : Rn 23 4 (g + 1) W' v (st.sets.map c4 ++ [c4 x])) (ho : v.ownBlock = vS.ownBlock ∨ ∃ b, v.ownBlock = some b ∧ W.heap.size ≤ b) :
    StM g (W'.setCell ⟨g, 0, none⟩ v) v vF fs ⟨st.sets ++ [x], st.fol⟩ ∧ Mv g (own2 vS vF) W (W'.setCell ⟨g, 0, none⟩ v) (own2 v vF) := by
  have hgl := blk_lt h.obj
  have own : ∀ k, k < W.heap.size → own2 v vF k → own2 vS vF k := fun k hk hw => by
    rcases hw with hw | hw
    · rcases ho with e | ⟨b, e, hb⟩
      · exact .inl (by rw [← e]; exact hw)
      · rw [e] at hw; injection hw with hw; omega
    · exact .inr hw
  have same : ∀ k, k < W.heap.size → k ≠ g → ¬ own2 vS vF k → (W'.setCell ⟨g, 0, none⟩ v).heap[k]? = W.heap[k]? := fun k hk hkg hko =>
    (set_other hkg).trans (hg.block k hk (fun e => hko (.inl e.symm)))
  refine ⟨⟨?_, ?_, ?_, h.len, fun i f l hf hl => ?_, fun k hk hk2 => ?_⟩, ?_⟩
  · have : W'.heap[g]? = some (MO vS vF) := (hg.block g hgl (fun e => by have := (h.sets.own g e.symm).1; omega)).trans h.obj
    unfold MO at *
    simp [World.setCell, Array.getElem?_modify, this]
  · simp only [List.map_append, List.map_cons, List.map_nil]
    exact hr.same fun k hk => set_other (by have := (hr.own k hk).1; omega)
  · exact h.fol.same fun k hk => by
      have h1 := h.fol.own k hk
      exact (set_other (by omega)).trans (hg.block k h1.2 (fun e => h.apart k e.symm hk))
  · exact (h.each i f l hf hl).keep fun k hk hs => ⟨⟨hs.1, fun hw => hs.2 (own k hk hw)⟩, same k hk (by omega) hs.2⟩
  · have h1 := h.fol.own k hk2
    rcases own k h1.2 (.inl hk) with h2 | h2
    · exact h.apart k h2 hk2
    · rcases ho with e | ⟨b, e, hb⟩
      · rw [e] at hk; exact h.apart k hk hk2
      · rw [e] at hk; injection hk with hk; omega
  · exact ⟨hg.os, hg.tape, hg.output, by simpa [World.setCell] using hg.size, fun k hk hkg hko => ⟨same k hk hkg hko, fun hw => hko (own k hk hw)⟩⟩
theorem StM.moref {g : Nat} {W W' : World} {vS vF v : Value} {fs : List Value} {st : Ps} (h : StM g W vS vF fs st) (hg : W.grownBy W' vF.ownBlock) (hr : R1 30 (g + 1) W' v (fs ++ [.slice none 0 0])) (ho : v.ownBlock = vF.ownBlock ∨ v.ownBlock = some W.heap.size) :
    StM g (W'.setCell ⟨g, 4, none⟩ v) vS v (fs ++ [.slice none 0 0]) ⟨st.sets, st.fol ++ [[]]⟩ ∧ Mv g (own2 vS vF) W (W'.setCell ⟨g, 4, none⟩ v) (own2 vS v) := by
  have hgl := blk_lt h.obj
  have own : ∀ k, k < W.heap.size → own2 vS v k → own2 vS vF k := fun k hk hw => by
    rcases hw with hw | hw
    · exact .inl hw
    · rcases ho with e | e
      · exact .inr (by rw [← e]; exact hw)
      · rw [e] at hw; injection hw with hw; omega
  have same : ∀ k, k < W.heap.size → k ≠ g → ¬ own2 vS vF k → (W'.setCell ⟨g, 4, none⟩ v).heap[k]? = W.heap[k]? := fun k hk hkg hko =>
    (set_other hkg).trans (hg.block k hk (fun e => hko (.inr e.symm)))
  refine ⟨⟨?_, ?_, ?_, by simp [h.len], fun i f l hf hl => ?_, fun k hk hk2 => ?_⟩, ?_⟩
  · have : W'.heap[g]? = some (MO vS vF) := (hg.block g hgl (fun e => by have := (h.fol.own g e.symm).1; omega)).trans h.obj
    unfold MO at *
    simp [World.setCell, Array.getElem?_modify, this]
  · exact h.sets.same fun k hk => by
      have h1 := h.sets.own k hk
      exact (set_other (by omega)).trans (hg.block k h1.2 (fun e => h.apart k hk e.symm))
  · exact hr.same fun k hk => set_other (by have := (hr.own k hk).1; omega)
  · by_cases hi : i < fs.length
    · rw [List.getElem?_append_left hi] at hf
      rw [List.getElem?_append_left (by rw [← h.len]; exact hi)] at hl
      exact (h.each i f l hf hl).keep fun k hk hs => ⟨⟨hs.1, fun hw => hs.2 (own k hk hw)⟩, same k hk (by omega) hs.2⟩
    · have hi2 : i = fs.length := by
        have := (List.getElem?_eq_some_iff.1 hf).1
        simp at this; omega
      rw [hi2, List.getElem?_concat_length] at hf
      rw [hi2, h.len, List.getElem?_concat_length] at hl
      injection hf with hf
      injection hl with hl
      subst hf hl
      exact Ls.nil _ _
  · have h1 := h.sets.own k hk
    rcases ho with e | e
    · rw [e] at hk2; exact h.apart k hk hk2
    · rw [e] at hk2; injection hk2 with hk2; omega
  · exact ⟨hg.os, hg.tape, hg.output, by simpa [World.setCell] using hg.size, fun k hk hkg hko => ⟨same k hk hkg hko, fun hw => hko (own k hk hw)⟩⟩
/-- What the region may do: its row of sets grows, and reads as before. -/
def GGd (g : Nat) (v : Value) (sets : List (BitVec 256)) (w w' : World) : Prop := w.grownBy w' v.ownBlock ∧ (Rn 23 4 (g + 1) w v (sets.map c4) → Rn 23 4 (g + 1) w' v (sets.map c4))
theorem GGd.pre (g : Nat) (v : Value) (sets : List (BitVec 256)) : Pre (GGd g v sets) := ⟨fun _w => ⟨grown_refl _ _, id⟩, fun h k => ⟨World.grownBy.trans h.1 k.1, fun r => k.2 (h.2 r)⟩⟩
def GId (g : Nat) (v : Value) (sets : List (BitVec 256)) (i : Nat) : World → World → Prop := if i = 9 then GGd g v sets else Kept
theorem GId.le {g : Nat} {v : Value} {sets : List (BitVec 256)} : ∀ i w w', GId g v sets i w w' → GGd g v sets w w' := fun i w w' h => by
  unfold GId at h
  split at h
  · exact h
  · exact ⟨h.grownBy _, fun r => r.kept h⟩
theorem c4_one {x : BitVec 256} : ∀ c ∈ c4 x, c.oneCell' = true := by
  intro c hc
  simp only [c4, List.mem_cons, List.not_mem_nil, or_false] at hc
  rcases hc with rfl | rfl | rfl | rfl <;> rfl
set_option maxRecDepth 100000 in
set_option maxHeartbeats 16000000 in
theorem rwalk_set (g : Nat) (w : World) (op : Int) (x : BitVec 256) (kids : List Rx) (A : Option Addr) (cap : Nat) (vS vF : Value) (fs : List Value) (st : Ps) (hx : RxAt (· < g) w (rx6 op x (.slice A kids.length cap)) (.mk op x kids)) (_hkl : kids.length ≤ 9223372036854775807) (hm : StM g w vS vF fs st)  (ho : op = 1) (hS : st.sets.length ≤ 150) (hfl : st.fol.length = st.sets.length) : Calls Try.prog 24 #[ptr g, rx6 op x (.slice A kids.length cap)] w (WkSaid g (own2 vS vF) (⟨false, [st.sets.length], [st.sets.length]⟩, ⟨st.sets ++ [x], st.fol ++ [[]]⟩) w) := by
  have H := Lib.hid (((Ws.start hm).alloc (.cells #[.int .i64 op, .int .u64 (wdN x 0), .int .u64 (wdN x 1), .int .u64 (wdN x 2), .int .u64 (wdN x 3), .slice A kids.length cap] 26)).alloc (.cells #[.bool false, .slice none 0 0, .slice none 0 0] 73))
  have hgw := blk_lt hm.obj
  simp only [World.size_alloc] at H
  obtain ⟨AS, capS, rfl⟩ := hm.sets.form
  rw [List.length_map] at H ⊢
  obtain ⟨⟨m0, m1, m2, m3, m4⟩, -⟩ := box5 hm.obj
  rw [List.length_map] at m0
  clear hm
  subst ho
  unfold ptr rx6
  go_enter Try.func24, Try.ntmps24
  go_wp2_with fail
  clear m0 m1 m2 m3 m4
  generalize (w.alloc _).alloc _ = W at H ⊢
  obtain ⟨B, hB⟩ : ∃ B, w.heap.size = B := ⟨_, rfl⟩
  rw [hB] at H hgw ⊢
  obtain ⟨r, hrr⟩ : ∃ r, B + 1 = r := ⟨_, rfl⟩
  rw [hrr] at H ⊢
  have HB0 := Lib.hid (H.out.blk (r := B) (.tail _ (.head _)))
  obtain ⟨⟨a0, a1, a2, a3, a4, a5⟩, -⟩ := box6 HB0.out
  obtain ⟨⟨m0, m1, m2, m3, m4⟩, -⟩ := box5 H.out.m.obj
  have hneg : some g ≠ Value.ownBlock (.slice AS st.sets.length capS) := fun e => by have := (H.out.m.sets.own g e.symm).1; omega
  have hneB : some B ≠ Value.ownBlock (.slice AS st.sets.length capS) := fun e => (H.out.b _ (.tail _ (.head _))).2.2.1 (.inl e.symm)
  have HOWN : Hid (∀ k, Value.ownBlock (.slice AS st.sets.length capS) = some k → k < W.heap.size) := Lib.hid fun k hk => (H.out.m.sets.own k hk).2
  have HROW := Lib.hid H.out.m.sets
  have HGW : Hid (g + 1 ≤ W.heap.size) := Lib.hid (blk_lt H.out.m.obj)
  refine wp_region_finI' (by simp only [List.dropLast_cons_cons, List.dropLast_singleton]; exact rfl) (by simp only [List.getLast?_cons_cons, List.getLast?_singleton]; exact rfl) (GGd g (.slice AS st.sets.length capS) st.sets) (GGd.pre _ _ _) (GId g (.slice AS st.sets.length capS) st.sets) GId.le [([(0, none)], none), ([(0, none)], none), ([(24, some 1)], none), ([(25, some 2)], none), ([(26, some 3)], none), ([(27, some 4)], none), ([(3, none)], none), ([(29, some 6)], none), ([(30, some 7)], none), ([(28, some 5), (31, some 8)], none), ([(23, some 0)], none), ([(33, some 10)], none), ([(34, some 11)], none), ([(35, some 12), (32, some 9)], none)] (by kernel_rfl) 178 rfl (by kernel_rfl) (by kernel_rfl) rfl ?_
  apply goI_val rfl
  · rintro ρ wr ⟨hg, hn, hc, hf, hgl⟩
    simp only [Need, fat, List.nil_append, List.cons_append, List.getD_cons_zero, List.getD_cons_succ, Fct.hold, and_true] at hn
    refine ⟨by simp [wantP, hn], ?_⟩
    simp [execOp, hn, hc, go_sem]
    exact rfl
  apply goI_val rfl
  · rintro ρ wr ⟨hg, hn, hc, hf, hgl⟩
    simp only [Need, fat, List.nil_append, List.cons_append, List.getD_cons_zero, List.getD_cons_succ, Fct.hold, and_true] at hn
    refine ⟨by simp [wantP, hn], ?_⟩
    simp [execOp, hn, hc, go_sem]
    exact rfl
  apply goI_val rfl
  · rintro ρ wr ⟨hg, hn, hc, hf, hgl⟩
    simp only [Need, fat, List.nil_append, List.cons_append, List.getD_cons_zero, List.getD_cons_succ, Fct.hold, and_true] at hn
    refine ⟨by simp [wantP, hn], ?_⟩
    simp [execOp, hn, hc, go_sem]
    exact rfl
  apply goI_val rfl
  · rintro ρ wr ⟨hg, hn, hc, hf, hgl⟩
    simp only [Need, fat, List.nil_append, List.cons_append, List.getD_cons_zero, List.getD_cons_succ, Fct.hold, and_true] at hn
    refine ⟨by simp [wantP, hn], ?_⟩
    simp [execOp, hn, hc, go_sem]
    exact rfl
  apply goI_val rfl
  · rintro ρ wr ⟨hg, hn, hc, hf, hgl⟩
    simp only [Need, fat, List.nil_append, List.cons_append, List.getD_cons_zero, List.getD_cons_succ, Fct.hold, and_true] at hn
    refine ⟨by simp [wantP, hn], ?_⟩
    simp [execOp, hn, hc, go_sem]
    exact rfl
  apply goI_val (x := .slice AS st.sets.length capS) rfl
  · rintro ρ wr ⟨hg, hn, hc, hf, hgl⟩
    simp only [Need, fat, List.nil_append, List.cons_append, List.getD_cons_zero, List.getD_cons_succ, Fct.hold, and_true] at hn
    refine ⟨by simp [wantP, hn], ?_⟩
    simp [execOp, hn, hc, go_sem, hg.1.cell m0 hneg]
  apply goI_val rfl
  · rintro ρ wr ⟨hg, hn, hc, hf, hgl⟩
    simp only [Need, fat, List.nil_append, List.cons_append, List.getD_cons_zero, List.getD_cons_succ, Fct.hold, and_true] at hn
    refine ⟨by simp [wantP, hn], ?_⟩
    simp [execOp, hn, hc, go_sem]
    exact rfl
  apply goI_val (x := .agg #[.int .u64 (wdN x 0), .int .u64 (wdN x 1), .int .u64 (wdN x 2), .int .u64 (wdN x 3)]) rfl
  · rintro ρ wr ⟨hg, hn, hc, hf, hgl⟩
    simp only [Need, fat, List.nil_append, List.cons_append, List.getD_cons_zero, List.getD_cons_succ, Fct.hold, and_true] at hn
    refine ⟨by simp [wantP, hn], ?_⟩
    simp [execOp, hn, hc, go_sem, hg.1.cell a1 hneB, hg.1.cell a2 hneB, hg.1.cell a3 hneB, hg.1.cell a4 hneB]
  refine goI_any (p := fun u w' => ∃ k, u = .slice (some ⟨k, 0, none⟩) 1 1 ∧ W.heap.size ≤ k ∧ ∀ (j : Nat) (c : Value), (c4 x)[j]? = some c → w'.cell? ⟨k, j, none⟩ = some c) ?_ ?_ ?_
  · rintro i hi u w5 w6 hg5 ⟨k, rfl, hk, hcs⟩
    refine ⟨k, rfl, hk, fun j c hj => ?_⟩
    unfold GId at hg5
    split at hg5
    · exact hg5.1.cell (hcs j c hj) (fun e => by have h9 : k < W.heap.size := HOWN.out k e.symm; omega)
    · exact hg5.cell (hcs j c hj)
  · rintro ρ wr ⟨hg, hn, hc, hf, hgl⟩
    simp only [Need, fat, List.nil_append, List.cons_append, List.getD_cons_zero, List.getD_cons_succ, Fct.hold, and_true] at hn
    refine ⟨by simp [wantP], ?_⟩
    exact ups_ok (v := .slice (some ⟨wr.heap.size, 0, none⟩) 1 1) (w' := wr.alloc (.cells #[.int .u64 (wdN x 0), .int .u64 (wdN x 1), .int .u64 (wdN x 2), .int .u64 (wdN x 3)] 23)) (by simp [execOp, hn, hc, go_sem]) ⟨⟨_, rfl, hg.1.size, fun j c hj => by
      rw [blk_cell (blk_new wr _), ← Array.getElem?_toList]; exact hj⟩, (Kept.refl _).alloc _⟩
  refine goI_any (p := fun v w' => Rn 23 4 (g + 1) w' v (st.sets.map c4 ++ [c4 x]) ∧ (v.ownBlock = Value.ownBlock (.slice AS st.sets.length capS) ∨ ∃ b, v.ownBlock = some b ∧ W.heap.size ≤ b)) ?_ ?_ ?_
  · rintro i hi u w5 w6 hg5 ⟨h1, h2⟩
    unfold GId at hg5
    rw [if_neg (by simpa using hi)] at hg5
    exact ⟨h1.kept hg5, h2⟩
  · rintro ρ wr ⟨hg, hn, hc, hf, hgl⟩
    simp only [Need, fat, List.nil_append, List.cons_append, List.getD_cons_zero, List.getD_cons_succ, Fct.hold, and_true] at hn
    refine ⟨by simp [wantP], ?_⟩
    obtain ⟨hn1, k, hn2, hk, hcs⟩ := hn
    obtain ⟨v', w', hr, h1, h2, h3, h4⟩ := Rn.append_old (size := 4) 29 29 32 (.agg #[.int .u64 0, .int .u64 0, .int .u64 0, .int .u64 0]) (by kernel_rfl) (by kernel_rfl) rfl (by decide) (by decide) (hg.2 (HROW.out.kept (Kept.drew (Kept.refl _)))) (c4 x) rfl c4_one k hcs (by rw [List.length_map]; omega) (Nat.le_trans HGW.out hg.1.size)
    simp only [execOp, resolve, invoke, builtin, Sem.run_bind, Sem.run_pure, Result.andThen_ok, List.map_toArray, List.map_cons, List.map_nil, hn1, hn2, hr, Ups]
    refine ⟨⟨h1, ?_⟩, h3, fun _ => h2⟩
    rcases h4 with h4 | h4
    · exact .inl h4
    · exact .inr ⟨_, h4, hg.1.size⟩
  apply goI_val rfl
  · rintro ρ wr ⟨hg, hn, hc, hf, hgl⟩
    simp only [Need, fat, List.nil_append, List.cons_append, List.getD_cons_zero, List.getD_cons_succ, Fct.hold, and_true] at hn
    refine ⟨by simp [wantP, hn], ?_⟩
    simp [execOp, hn, hc, go_sem]
    exact rfl
  apply goI_val rfl
  · rintro ρ wr ⟨hg, hn, hc, hf, hgl⟩
    simp only [Need, fat, List.nil_append, List.cons_append, List.getD_cons_zero, List.getD_cons_succ, Fct.hold, and_true] at hn
    refine ⟨by simp [wantP, hn], ?_⟩
    simp [execOp, hn, hc, go_sem]
    exact rfl
  apply goI_val rfl
  · rintro ρ wr ⟨hg, hn, hc, hf, hgl⟩
    simp only [Need, fat, List.nil_append, List.cons_append, List.getD_cons_zero, List.getD_cons_succ, Fct.hold, and_true] at hn
    refine ⟨by simp [wantP, hn], ?_⟩
    simp [execOp, hn, hc, go_sem]
    exact rfl
  intro w2 hk2
  simp only [Post, List.nil_append, List.cons_append, Act.put, List.setIfInBounds_toArray, List.set_cons_zero, List.set_cons_succ]
  rintro u10 h10 u11 ⟨hrow, hob⟩
  obtain ⟨AN, capN, rfl⟩ := hrow.form
  have e9 : (st.sets.map c4 ++ [c4 x]).length = st.sets.length + 1 := by simp
  rw [e9] at hrow hob ⊢
  have hg2 : W.grownBy w2 (Value.ownBlock (.slice AS st.sets.length capS)) := World.grownBy.trans ((Kept.drew (Kept.refl W)).grownBy _) hk2.1
  obtain ⟨hm3, hv3⟩ := H.out.m.more hg2 hrow hob
  have HST := Lib.hid hm3
  have hf2 : w2.frozen? ⟨g, 0, none⟩ = false := by
    have : w2.heap[g]? = some (MO (.slice AS st.sets.length capS) vF) := (hg2.block g (blk_lt H.out.m.obj) hneg).trans H.out.m.obj
    exact blk_free this _
  have hc2 : w2.cell? ⟨g, 0, none⟩ = some (.slice AS st.sets.length capS) := hg2.cell m0 hneg
  replace H := Lib.hid (H.out.step hm3 hv3)
  clear hm3 hv3 hg2 hk2 hrow hob h10 HROW HOWN HGW HB0 a0 a1 a2 a3 a4 a5 m0 m1 m2 m3 m4 hneg hneB
  rename_i hK
  unfold Oper.wp execOp
  go_simp
  refine hK _ _ ?_
  clear hK hc2 hf2
  generalize w2.setCell _ _ = w3 at H HST ⊢
  obtain ⟨⟨m0, m1, m2, m3, m4⟩, -⟩ := box5 H.out.m.obj
  obtain ⟨AF, capF, rfl⟩ := H.out.m.fol.form
  have hlen := H.out.m.len
  have hbN := blk_new w3 (.cells #[.slice none 0 0] 30)
  have hkN : Kept w3 (w3.alloc (.cells #[.slice none 0 0] 30)) := (Kept.refl _).alloc _
  have HF1 := Lib.hid (H.out.m.fol.kept hkN)
  have HG1 : Hid (g + 1 ≤ (w3.alloc (.cells #[.slice none 0 0] 30)).heap.size) := Lib.hid (by have := blk_lt H.out.m.obj; have := hkN.size; omega)
  have HCN : Hid ((w3.alloc (.cells #[.slice none 0 0] 30)).cell? ⟨w3.heap.size, 0, none⟩ = some (.slice none 0 0)) := Lib.hid (by rw [blk_cell hbN]; rfl)
  replace H := Lib.hid (H.out.kept hkN)
  have HN9 : Hid (fs.length ≤ 100000) := Lib.hid (by rw [hlen]; simp only []; omega)
  clear hbN hkN HST hlen
  go_wp2_with (at_builtin; refine wpList_push1 rfl _ _ 31 30 (.inr ⟨rfl, rfl⟩) rfl rfl HF1.out (.slice none 0 0) rfl w3.heap.size rfl HCN.out HN9.out HG1.out ?_; intro v8 w8 hraw hgr hown; obtain ⟨A8, cap8, rfl⟩ := hraw.form; obtain ⟨hm5, hv5⟩ := H.out.m.moref hgr hraw hown; have hne4 : some g ≠ Value.ownBlock (.slice AF fs.length capF) := fun e => (by have := (H.out.m.fol.own g e.symm).1; omega); have hb4 := (hgr.block g (blk_lt H.out.m.obj) hne4).trans H.out.m.obj; have hz4 : w8.frozen? ⟨g, 4, none⟩ = false := blk_free hb4 _; have hc4' : w8.cell? ⟨g, 4, none⟩ = some (.slice AF fs.length capF) := (by rw [blk_cell hb4]; rfl); have HS8 := Lib.hid (And.intro hm5 hv5); have hbr := H.out.blk (r := r) (.head _); have hr8 := (hgr.block r (blk_lt hbr) (fun e => (H.out.b _ (.head _)).2.2.1 (.inr e.symm))).trans hbr; have hrl := blk_lt hr8; obtain ⟨⟨d0, d1, d2⟩, g0, g1, g2⟩ := PB.lay hr8; clear hm5 hv5 hraw hgr hown hne4 hb4 hbr hr8)
  have e9 : (fs ++ [Value.slice none 0 0]).length = fs.length + 1 := by simp
  have H8 := Lib.hid (H.out.step HS8.out.1 HS8.out.2)
  rw [e9] at H8
  have hbs : (w8.setCell ⟨g, 4, none⟩ (.slice A8 (fs.length + 1) cap8)).heap.size = w8.heap.size := by simp [World.setCell]
  have H9 := Lib.hid (H8.out.sub (bs' := [(r, PB false none 0 0 none 0 0)]) (fun q hq => by rw [List.mem_singleton.1 hq]; exact .head _))
  have H10 := Lib.hid (H9.out.put0 (b' := false) (by simp))
  have H11 := Lib.hid (H10.out.put1 (A := some ⟨w8.heap.size, 0, none⟩) (n := 1) (c := 1) (by simp))
  have H12 := Lib.hid (H11.out.put2 (A := some ⟨w8.heap.size + 1, 0, none⟩) (n := 1) (c := 1) (by simp))
  generalize hE : (((w8.setCell ⟨g, 4, none⟩ (.slice A8 (fs.length + 1) cap8)).setCell ⟨r, 0, none⟩ (.bool false)).setCell ⟨r, 1, none⟩ (.slice (some ⟨w8.heap.size, 0, none⟩) 1 1)).setCell ⟨r, 2, none⟩ (.slice (some ⟨w8.heap.size + 1, 0, none⟩) 1 1) = E at H12 ⊢
  have hEs : E.heap.size = w8.heap.size := by rw [← hE]; simp [World.setCell]
  clear hE d0 d1 d2 g0 g1 g2 hz4 hc4' HS8 H8 H9 H10 H11 H
  have hre := blk_lt (H12.out.blk (.head _))
  obtain ⟨⟨d0, d1, d2⟩, -⟩ := PB.lay (H12.out.blk (.head _))
  have hal := alloc2 E (.cells #[.int .i64 (st.sets.length : Nat)] 3) (.cells #[.int .i64 (st.sets.length : Nat)] 3)
  rw [hEs] at hal
  have hno : ∀ k, w8.heap.size ≤ k → g < k ∧ ¬ own2 (.slice AN (st.sets.length + 1) capN) (.slice A8 (fs.length + 1) cap8) k := fun k hk => by
    have h1 := blk_lt H12.out.m.obj
    refine ⟨by omega, fun ho => ?_⟩
    have := H12.out.m.gt k ho
    omega
  refine bodyPost_ret (v := .agg #[.bool false, .slice (some ⟨w8.heap.size, 0, none⟩) 1 1, .slice (some ⟨w8.heap.size + 1, 0, none⟩) 1 1]) ?_ rfl ⟨_, _, _, _, _, rfl, Ls.one hal.1 (hno _ (Nat.le_refl _)), Ls.one hal.2.1 (hno _ (Nat.le_succ _)), (H12.out.kept hal.2.2).m, (H12.out.kept hal.2.2).v⟩
  simp [results, Try.results24, go_sem, d0, d1, d2, hre]
end Go.Proofs.Ytdbffbdpofodmaa
