/-
  The document's own reader of patterns in memory: where a function of it stands, carried over what memory does.
-/
import Derived.Test.YtdbffbdpofodmaaAlive
namespace Go.Proofs.Ytdbffbdpofodmaa.Kit
open Go Go.RowKit
/-- Where a function stands: the object at g, its own blocks, and what else was there. -/
def StO (g : Nat) (O : Obj) (bs : List (Nat × Obj)) (w W : World) : Prop :=
  W.heap[g]? = some O ∧ (∀ p ∈ bs, W.heap[p.1]? = some p.2 ∧ p.1 ≠ g) ∧ Gr g w W
section
variable {g : Nat} {O O' : Obj} {bs : List (Nat × Obj)} {w W W' : World}
theorem StO.start (h : w.heap[g]? = some O) : StO g O [] w w := ⟨h, fun p hp => by simp at hp, Gr.refl g w⟩
theorem StO.alloc (h : StO g O bs w W) (o : Obj) : StO g O ((W.heap.size, o) :: bs) w (W.alloc o) := by
  refine ⟨blk_old _ _ h.1, fun p hp => ?_, h.2.2.alloc o⟩
  rcases List.mem_cons.1 hp with rfl | hp
  · exact ⟨blk_new _ _, by have := blk_lt h.1; simp only []; omega⟩
  · exact ⟨blk_old _ _ (h.2.1 p hp).1, (h.2.1 p hp).2⟩
theorem StO.kept (h : StO g O bs w W) (hk : Kept W W') : StO g O bs w W' :=
  ⟨hk.blk h.1, fun p hp => ⟨hk.blk (h.2.1 p hp).1, (h.2.1 p hp).2⟩, h.2.2.trans (hk.gr g)⟩
theorem StO.drawn (h : StO g O bs w W) (hk : Kept W.drew W') : StO g O bs w W' := h.kept ((Kept.drew (Kept.refl _)).trans hk)
theorem StO.step (h : StO g O bs w W) (hr : W'.heap[g]? = some O') (hg : Gr g W W') : StO g O' bs w W' :=
  ⟨hr, fun p hp => ⟨hg.blk (h.2.1 p hp).1 (h.2.1 p hp).2, (h.2.1 p hp).2⟩, h.2.2.trans hg⟩
theorem StO.set (h : StO g O bs w W) (i : Nat) (v : Value) (hr : (W.setCell ⟨g, i, none⟩ v).heap[g]? = some O') : StO g O' bs w (W.setCell ⟨g, i, none⟩ v) :=
  h.step hr ((Gr.refl g W).set (.inl rfl) _)
theorem StO.blk (h : StO g O bs w W) {r : Nat} {o : Obj} (hm : (r, o) ∈ bs) : W.heap[r]? = some o := (h.2.1 _ hm).1
theorem StO.ne (h : StO g O bs w W) {r : Nat} {o : Obj} (hm : (r, o) ∈ bs) : r ≠ g := (h.2.1 _ hm).2
theorem StO.drop {b : Nat × Obj} (h : StO g O (b :: bs) w W) : StO g O bs w W := ⟨h.1, fun p hp => h.2.1 p (List.mem_cons_of_mem _ hp), h.2.2⟩
theorem StO.side (h : StO g O bs w W) {p : Addr} (hp : w.heap.size ≤ p.block) (hg : p.block ≠ g) (hb : ∀ q ∈ bs, p.block ≠ q.1) (u : Value) : StO g O bs w (W.setCell p u) :=
  ⟨blk_aside h.1 hg u, fun q hq => ⟨blk_aside (h.2.1 q hq).1 (hb q hq) u, (h.2.1 q hq).2⟩, h.2.2.set (.inr hp) u⟩
theorem StO.put (h : StO g O bs w W) {p : Addr} (hp : w.heap.size ≤ p.block) (hg : p.block ≠ g) (u : Value) : StO g O [] w (W.setCell p u) :=
  ⟨blk_aside h.1 hg u, fun q hq => by simp at hq, h.2.2.set (.inr hp) u⟩
theorem StO.add (h : StO g O bs w W) {b : Nat} {o : Obj} (hb : W.heap[b]? = some o) (hg : b ≠ g) : StO g O ((b, o) :: bs) w W :=
  ⟨h.1, fun q hq => by
    rcases List.mem_cons.1 hq with rfl | hq
    · exact ⟨hb, hg⟩
    · exact h.2.1 q hq, h.2.2⟩
theorem StO.grown {row : Option Nat} (h : StO g O bs w W) (hg : W.grownBy W' row) (hr : ∀ b, row = some b → w.heap.size ≤ b ∧ b ≠ g ∧ ∀ q ∈ bs, q.1 ≠ b) : StO g O bs w W' := by
  have blk : ∀ (i : Nat) (o : Obj), (∀ b, row = some b → i ≠ b) → W.heap[i]? = some o → W'.heap[i]? = some o := fun i o hi ho =>
    (hg.block i (blk_lt ho) (fun e => hi i e.symm rfl)).trans ho
  refine ⟨blk g _ (fun b e => (hr b e).2.1.symm) h.1, fun p hp => ⟨blk _ _ (fun b e => (hr b e).2.2 p hp) (h.2.1 p hp).1, (h.2.1 p hp).2⟩, ?_⟩
  have h1 := h.2.2
  refine ⟨hg.os.trans h1.os, hg.tape.trans h1.tape, hg.output.trans h1.output, Nat.le_trans h1.size hg.size, fun i hi hne => ?_⟩
  refine (hg.block i (Nat.lt_of_lt_of_le hi h1.size) (fun e => ?_)).trans (h1.block i hi hne)
  have := (hr i e.symm).1
  omega
end
/-- The document's own reader: well, and failed. -/
def RO (s : ByteArray) (k : Nat) : Obj := .cells #[.string s, .int .i64 k, .int .i64 0, .int .i64 0] 78
def RF (s : ByteArray) (a : Int) (er j : Nat) : Obj := .cells #[.string s, .int .i64 a, .int .i64 er, .int .i64 j] 78
theorem RO.lay {g k : Nat} {s : ByteArray} {w : World} (h : w.heap[g]? = some (RO s k)) : (w.cell? ⟨g, 0, none⟩ = some (.string s) ∧ w.cell? ⟨g, 1, none⟩ = some (.int .i64 k) ∧ w.cell? ⟨g, 2, none⟩ = some (.int .i64 0) ∧ w.cell? ⟨g, 3, none⟩ = some (.int .i64 0)) ∧
    (w.frozen? ⟨g, 0, none⟩ = false ∧ w.frozen? ⟨g, 1, none⟩ = false ∧ w.frozen? ⟨g, 2, none⟩ = false ∧ w.frozen? ⟨g, 3, none⟩ = false) := box4 h
theorem RF.lay {g er j : Nat} {a : Int} {s : ByteArray} {w : World} (h : w.heap[g]? = some (RF s a er j)) : (w.cell? ⟨g, 0, none⟩ = some (.string s) ∧ w.cell? ⟨g, 1, none⟩ = some (.int .i64 a) ∧ w.cell? ⟨g, 2, none⟩ = some (.int .i64 er) ∧ w.cell? ⟨g, 3, none⟩ = some (.int .i64 j)) ∧
    (w.frozen? ⟨g, 0, none⟩ = false ∧ w.frozen? ⟨g, 1, none⟩ = false ∧ w.frozen? ⟨g, 2, none⟩ = false ∧ w.frozen? ⟨g, 3, none⟩ = false) := box4 h
theorem StO.at {g k k' : Nat} {s : ByteArray} {bs : List (Nat × Obj)} {w W : World} (h : StO g (RO s k) bs w W) : StO g (RO s k') bs w (W.setCell ⟨g, 1, none⟩ (.int .i64 k')) :=
  h.set 1 _ (by have := h.1; unfold RO at *; simp [World.setCell, Array.getElem?_modify, this])
theorem StO.atF {g er j : Nat} {a a' : Int} {s : ByteArray} {bs : List (Nat × Obj)} {w W : World} (h : StO g (RF s a er j) bs w W) : StO g (RF s a' er j) bs w (W.setCell ⟨g, 1, none⟩ (.int .i64 a')) :=
  h.set 1 _ (by have := h.1; unfold RF at *; simp [World.setCell, Array.getElem?_modify, this])
/-- Six stores into the block of the result. -/
theorem ret_reO {g r : Nat} {O : Obj} {w W : World} (h : StO g O [(r, (.cells #[.int .i64 0, .int .u64 0, .int .u64 0, .int .u64 0, .int .u64 0, .slice none 0 0] 26))] w W) (hr : w.heap.size ≤ r) (a b c d e f : Value) :
    StO g O [] w ((((((W.setCell ⟨r, 0, none⟩ a).setCell ⟨r, 1, none⟩ b).setCell ⟨r, 2, none⟩ c).setCell ⟨r, 3, none⟩ d).setCell ⟨r, 4, none⟩ e).setCell ⟨r, 5, none⟩ f) := by
  have hn := h.ne List.mem_cons_self
  exact (((((h.put (p := ⟨r, 0, none⟩) hr hn a).put (p := ⟨r, 1, none⟩) hr hn b).put (p := ⟨r, 2, none⟩) hr hn c).put (p := ⟨r, 3, none⟩) hr hn d).put (p := ⟨r, 4, none⟩) hr hn e).put (p := ⟨r, 5, none⟩) hr hn f
theorem pass_re {r o1 n1 p1 : Nat} {s1 : BitVec 256} {A1 : Option Addr} {S S' : Nat → Prop} {W : World} {x : Re} (hx : ReAt S W (re6 o1 s1 (.slice A1 n1 p1)) x) (hS : ¬ S r) (hS' : ∀ k, S k → S' k) :
    ReAt S' ((((((W.setCell ⟨r, 0, none⟩ (.int .i64 o1)).setCell ⟨r, 1, none⟩ (wd s1 0)).setCell ⟨r, 2, none⟩ (wd s1 1)).setCell ⟨r, 3, none⟩ (wd s1 2)).setCell ⟨r, 4, none⟩ (wd s1 3)).setCell ⟨r, 5, none⟩ (.slice A1 n1 p1)) (re6 o1 s1 (.slice A1 n1 p1)) x :=
  ((((((hx.set (p := ⟨r, 0, none⟩) hS _).set (p := ⟨r, 1, none⟩) hS _).set (p := ⟨r, 2, none⟩) hS _).set (p := ⟨r, 3, none⟩) hS _).set (p := ⟨r, 4, none⟩) hS _).set (p := ⟨r, 5, none⟩) hS _).weak fun k _ h => hS' k h
end Go.Proofs.Ytdbffbdpofodmaa.Kit
