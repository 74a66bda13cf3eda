/-
  Where a function of the document's maker stands: the maker, its own blocks, what else was there. Conditions: none.
-/
import Derived.Test.YtdbffbdpofodmaaApp
set_option linter.unusedSimpArgs false
namespace Go.Proofs.Ytdbffbdpofodmaa
open Go Go.RowKit Kit
theorem Kit.box3 {w : World} {k : Nat} {a b c : Value} {t : TypeId} (hk : w.heap[k]? = some (.cells #[a, b, c] t (0, 0))) :
    (w.cell? ⟨k, 0, none⟩ = some a ∧ w.cell? ⟨k, 1, none⟩ = some b ∧ w.cell? ⟨k, 2, none⟩ = some c) ∧ (w.frozen? ⟨k, 0, none⟩ = false ∧ w.frozen? ⟨k, 1, none⟩ = false ∧ w.frozen? ⟨k, 2, none⟩ = false) := by
  refine ⟨⟨?_, ?_, ?_⟩, ?_, ?_, ?_⟩
  iterate 3 rw [blk_cell hk]; rfl
  all_goals exact blk_free hk _
namespace Kit
def PB (b : Bool) (A1 : Option Addr) (n1 c1 : Nat) (A2 : Option Addr) (n2 c2 : Nat) : Obj := .cells #[.bool b, .slice A1 n1 c1, .slice A2 n2 c2] 73
end Kit
theorem Kit.Ls.side {S : Nat → Prop} {w : World} {v : Value} {l : List Nat} {k : Nat} {b : Bool} {A1 A2 : Option Addr} {n1 c1 n2 c2 : Nat} (h : Ls S w v (ints l)) (hk : w.heap[k]? = some (PB b A1 n1 c1 A2 n2 c2)) (i : Nat) (u : Value) : Ls S (w.setCell ⟨k, i, none⟩ u) v (ints l) := by
  obtain ⟨A, cap, e, h1, h2, h3⟩ := h
  refine ⟨A, cap, e, h1, h2, fun j y hj => ?_⟩
  obtain ⟨p, o, ea, hs, hc⟩ := h3 j y hj
  refine ⟨p, o, ea, hs, ?_⟩
  have hpk : p ≠ k := by
    rintro rfl
    rw [blk_cell hk] at hc
    obtain ⟨n, rfl⟩ : ∃ n : Nat, y = .int .i64 n := by
      unfold ints at hj
      rw [List.getElem?_map] at hj
      cases hl : l[j]? with
      | none => rw [hl] at hj; cases hj
      | some n => rw [hl] at hj; injection hj with hj; exact ⟨n, hj.symm⟩
    match o + j, hc with
    | 0, hc => cases hc
    | 1, hc => cases hc
    | 2, hc => cases hc
    | q + 3, hc => simp at hc
  rw [World.cell?_setCell_other _ _ _ _ (fun e => hpk (by injection e with e _ _; exact e.symm))]
  exact hc
/-- Where it stands. -/
structure Ws (g : Nat) (O : Nat → Prop) (w : World) (bs : List (Nat × Obj)) (W : World) (vS vF : Value) (fs : List Value) (st : Ps) : Prop where
  m : StM g W vS vF fs st
  b : ∀ p ∈ bs, W.heap[p.1]? = some p.2 ∧ p.1 ≠ g ∧ ¬ own2 vS vF p.1 ∧ w.heap.size ≤ p.1
  v : Mv g O w W (own2 vS vF)
section
variable {g : Nat} {O : Nat → Prop} {w W W' : World} {bs bs' : List (Nat × Obj)} {vS vF vS' vF' : Value} {fs fs' : List Value} {st st' : Ps}
theorem Ws.start (h : StM g w vS vF fs st) : Ws g (own2 vS vF) w [] w vS vF fs st := ⟨h, fun p hp => by simp at hp, Mv.refl _ _ _⟩
theorem Ws.kept (h : Ws g O w bs W vS vF fs st) (hk : Kept W W') : Ws g O w bs W' vS vF fs st :=
  ⟨h.m.kept hk, fun p hp => ⟨hk.blk (h.b p hp).1, (h.b p hp).2⟩, h.v.trans (Mv.kept hk)⟩
theorem Ws.alloc (h : Ws g O w bs W vS vF fs st) (o : Obj) : Ws g O w ((W.heap.size, o) :: bs) (W.alloc o) vS vF fs st := by
  have h2 := h.kept ((Kept.refl W).alloc o)
  refine ⟨h2.m, fun p hp => ?_, h2.v⟩
  rcases List.mem_cons.1 hp with rfl | hp
  · exact ⟨blk_new _ _, by have := blk_lt h.m.obj; simp only []; omega, fun ho => by have := h.m.gt _ ho; simp only [] at this; omega, h.v.size⟩
  · exact h2.b p hp
theorem Ws.step (h : Ws g O w bs W vS vF fs st) (hm : StM g W' vS' vF' fs' st') (hv : Mv g (own2 vS vF) W W' (own2 vS' vF')) : Ws g O w bs W' vS' vF' fs' st' :=
  ⟨hm, fun p hp => by
    obtain ⟨h1, h2, h3, h4⟩ := h.b p hp
    obtain ⟨h5, h6⟩ := hv.blk h1 h2 h3
    exact ⟨h5, h2, h6, h4⟩, h.v.trans hv⟩
theorem Ws.sub (h : Ws g O w bs W vS vF fs st) (hs : ∀ p ∈ bs', p ∈ bs) : Ws g O w bs' W vS vF fs st := ⟨h.m, fun p hp => h.b p (hs p hp), h.v⟩
theorem Ws.blk (h : Ws g O w bs W vS vF fs st) {r : Nat} {o : Obj} (hm : (r, o) ∈ bs) : W.heap[r]? = some o := (h.b _ hm).1
theorem Ws.put {k : Nat} {b : Bool} {A1 A2 : Option Addr} {n1 c1 n2 c2 : Nat} (h : Ws g O w ((k, PB b A1 n1 c1 A2 n2 c2) :: bs) W vS vF fs st) (hne : ∀ q ∈ bs, q.1 ≠ k) (i : Nat) (u : Value) {o' : Obj} (ho : (W.setCell ⟨k, i, none⟩ u).heap[k]? = some o') :
    Ws g O w ((k, o') :: bs) (W.setCell ⟨k, i, none⟩ u) vS vF fs st := by
  obtain ⟨h1, h2, h3, h4⟩ := h.b _ List.mem_cons_self
  have same : ∀ q, q ≠ k → (W.setCell ⟨k, i, none⟩ u).heap[q]? = W.heap[q]? := fun q hq => by
    have : ¬ k = q := fun e => hq e.symm
    simp [World.setCell, Array.getElem?_modify, this]
  refine ⟨⟨(same g h2.symm).trans h.m.obj, h.m.sets.same fun q hq => same q (fun e => h3 (.inl (by rw [← e]; exact hq))), h.m.fol.same fun q hq => same q (fun e => h3 (.inr (by rw [← e]; exact hq))), h.m.len, fun j f l hf hl => (h.m.each j f l hf hl).side h1 i u, h.m.apart⟩, fun p hp => ?_, h.v.set (.inr (.inl h4)) u⟩
  rcases List.mem_cons.1 hp with rfl | hp
  · exact ⟨ho, h2, h3, h4⟩
  · have := h.b p (List.mem_cons_of_mem _ hp)
    exact ⟨(same p.1 (hne p hp)).trans this.1, this.2⟩
theorem PB_set0 {k : Nat} {b b' : Bool} {A1 A2 : Option Addr} {n1 c1 n2 c2 : Nat} (h : W.heap[k]? = some (PB b A1 n1 c1 A2 n2 c2)) : (W.setCell ⟨k, 0, none⟩ (.bool b')).heap[k]? = some (PB b' A1 n1 c1 A2 n2 c2) := by
  unfold PB at *
  simp [World.setCell, Array.getElem?_modify, h]
theorem PB_set1 {k : Nat} {b : Bool} {A1 A2 A : Option Addr} {n1 c1 n2 c2 n c : Nat} (h : W.heap[k]? = some (PB b A1 n1 c1 A2 n2 c2)) : (W.setCell ⟨k, 1, none⟩ (.slice A n c)).heap[k]? = some (PB b A n c A2 n2 c2) := by
  unfold PB at *
  simp [World.setCell, Array.getElem?_modify, h]
theorem PB_set2 {k : Nat} {b : Bool} {A1 A2 A : Option Addr} {n1 c1 n2 c2 n c : Nat} (h : W.heap[k]? = some (PB b A1 n1 c1 A2 n2 c2)) : (W.setCell ⟨k, 2, none⟩ (.slice A n c)).heap[k]? = some (PB b A1 n1 c1 A n c) := by
  unfold PB at *
  simp [World.setCell, Array.getElem?_modify, h]
theorem Ws.put0 {k : Nat} {b b' : Bool} {A1 A2 : Option Addr} {n1 c1 n2 c2 : Nat} (h : Ws g O w ((k, PB b A1 n1 c1 A2 n2 c2) :: bs) W vS vF fs st) (hne : ∀ q ∈ bs, q.1 ≠ k) : Ws g O w ((k, PB b' A1 n1 c1 A2 n2 c2) :: bs) (W.setCell ⟨k, 0, none⟩ (.bool b')) vS vF fs st :=
  h.put hne 0 _ (PB_set0 (h.blk List.mem_cons_self))
theorem Ws.put1 {k : Nat} {b : Bool} {A1 A2 A : Option Addr} {n1 c1 n2 c2 n c : Nat} (h : Ws g O w ((k, PB b A1 n1 c1 A2 n2 c2) :: bs) W vS vF fs st) (hne : ∀ q ∈ bs, q.1 ≠ k) : Ws g O w ((k, PB b A n c A2 n2 c2) :: bs) (W.setCell ⟨k, 1, none⟩ (.slice A n c)) vS vF fs st :=
  h.put hne 1 _ (PB_set1 (h.blk List.mem_cons_self))
theorem Ws.put2 {k : Nat} {b : Bool} {A1 A2 A : Option Addr} {n1 c1 n2 c2 n c : Nat} (h : Ws g O w ((k, PB b A1 n1 c1 A2 n2 c2) :: bs) W vS vF fs st) (hne : ∀ q ∈ bs, q.1 ≠ k) : Ws g O w ((k, PB b A1 n1 c1 A n c) :: bs) (W.setCell ⟨k, 2, none⟩ (.slice A n c)) vS vF fs st :=
  h.put hne 2 _ (PB_set2 (h.blk List.mem_cons_self))
end
theorem PB.lay {k : Nat} {w : World} {b : Bool} {A1 A2 : Option Addr} {n1 c1 n2 c2 : Nat} (h : w.heap[k]? = some (PB b A1 n1 c1 A2 n2 c2)) :
    (w.cell? ⟨k, 0, none⟩ = some (.bool b) ∧ w.cell? ⟨k, 1, none⟩ = some (.slice A1 n1 c1) ∧ w.cell? ⟨k, 2, none⟩ = some (.slice A2 n2 c2)) ∧ (w.frozen? ⟨k, 0, none⟩ = false ∧ w.frozen? ⟨k, 1, none⟩ = false ∧ w.frozen? ⟨k, 2, none⟩ = false) := box3 h
/-- A kid of a pattern in memory. -/
theorem RxAt.kid {S : Nat → Prop} {w : World} {op : Int} {x : BitVec 256} {A : Option Addr} {n cap : Nat} {kids : List Rx} (h : RxAt S w (rx6 op x (.slice A n cap)) (.mk op x kids)) {j : Nat} {y : Rx} (hj : kids[j]? = some y) :
    ∃ k o, A = some ⟨k, o, none⟩ ∧ S k ∧ ∃ a b c d e f, w.cell? ⟨k, o + j * 6, none⟩ = some a ∧ w.cell? ⟨k, o + j * 6 + 1, none⟩ = some b ∧ w.cell? ⟨k, o + j * 6 + 2, none⟩ = some c ∧ w.cell? ⟨k, o + j * 6 + 3, none⟩ = some d ∧ w.cell? ⟨k, o + j * 6 + 4, none⟩ = some e ∧ w.cell? ⟨k, o + j * 6 + 5, none⟩ = some f ∧ RxAt S w (.agg #[a, b, c, d, e, f]) y := by
  generalize hu : rx6 op x (.slice A n cap) = u at h
  generalize hz : Rx.mk op x kids = z at h
  cases h with
  | mk op' x' kids' A' cap' vs h1 h2 hc hk =>
    injection hz with z1 z2 z3
    subst z1 z2 z3
    unfold rx6 at hu
    injection hu with hu
    simp only [Array.mk.injEq, List.cons.injEq, and_true, true_and] at hu
    injection hu with hu1 hu2 hu3
    subst hu1
    obtain ⟨k, o, e, hs, a, b, c, d, e', f, hv, q⟩ := hc j y hj
    refine ⟨k, o, e, hs, a, b, c, d, e', f, q.1, q.2.1, q.2.2.1, q.2.2.2.1, q.2.2.2.2.1, q.2.2.2.2.2, ?_⟩
    rw [← hv]
    exact hk j y hj
/-- Its form. -/
theorem RxAt.form {S : Nat → Prop} {w : World} {u : Value} {op : Int} {x : BitVec 256} {kids : List Rx} (h : RxAt S w u (.mk op x kids)) : ∃ A cap, u = rx6 op x (.slice A kids.length cap) ∧ kids.length ≤ 9223372036854775807 := by
  cases h with
  | mk _ _ _ A cap vs h1 h2 hc hk => exact ⟨A, cap, rfl, by unfold maxLen at h2; omega⟩
def WkSaid (g : Nat) (O : Nat → Prop) (r : Pt × Ps) (w : World) (e : Ending) (w' : World) : Prop :=
  ∃ vf vl vS vF fs, e = .returned (.agg #[.bool r.1.null, vf, vl]) ∧ Ls (fun k => g < k ∧ ¬ own2 vS vF k) w' vf (ints r.1.first) ∧ Ls (fun k => g < k ∧ ¬ own2 vS vF k) w' vl (ints r.1.last) ∧ StM g w' vS vF fs r.2 ∧ Mv g O w w' (own2 vS vF)
/-- What the walk over a pattern says, wherever it begins. -/
def WkAny (g : Nat) (x : Rx) : Prop := ∀ (w : World) (u vS vF : Value) (fs : List Value) (st : Ps), RxAt (· < g) w u x → StM g w vS vF fs st → Ok st → st.sets.length + cnt x ≤ 150 → Calls Try.prog 24 #[ptr g, u] w (WkSaid g (own2 vS vF) (wk x st) w)
end Go.Proofs.Ytdbffbdpofodmaa
