/-
  Patterns, sets of bytes and the reader in memory: what a value reads as, kept while memory grows and the reader goes on.
-/
import Derived.Test.YtjlhopfmhhafoaaProg
import Derived.Test.YtjlhopfmhhafoaaPure
import Derived.Test.YtjlhopfmhhafoaaBytes
import Derived.Test.YtjlhopfmhhafoaaReg
import Derived.KernelRfl
namespace Go.Proofs.Ytjlhopfmhhafoaa.Kit
open Go Go.RowKit

def ptr (k : Nat) : Value := .pointer (some ⟨k, 0, none⟩)
/-- The words of a set. -/
def wd (x : BitVec 256) (i : Nat) : Value := .int .u64 (((x >>> (64 * i)).toNat % 18446744073709551616 : Nat) : Int)
/-- A set as a value. -/
def set4 (x : BitVec 256) : Value := .agg #[wd x 0, wd x 1, wd x 2, wd x 3]
/-- A pattern as a value. -/
def re6 (op : Nat) (x : BitVec 256) (sl : Value) : Value := .agg #[.int .i64 op, wd x 0, wd x 1, wd x 2, wd x 3, sl]
/-- All that was there is as it was, but for the block g. -/
def Gr (g : Nat) (w w' : World) : Prop := w.grownBy w' (some g)
theorem Gr.refl (g : Nat) (w : World) : Gr g w w := grown_refl _ _
theorem Gr.trans {g : Nat} {a b c : World} (h : Gr g a b) (k : Gr g b c) : Gr g a c := World.grownBy.trans h k
theorem pre_kept : Pre Kept := ⟨Kept.refl, Kept.trans⟩
theorem Kept.gr {w w' : World} (h : Kept w w') (g : Nat) : Gr g w w' := h.grownBy _
theorem Gr.size {g : Nat} {w w' : World} (h : Gr g w w') : w.heap.size ≤ w'.heap.size := World.grownBy.size h
theorem Gr.alloc {g : Nat} {a w : World} (h : Gr g a w) (o : Obj) : Gr g a (w.alloc o) := h.trans (((Kept.refl _).alloc o).gr g)
theorem Gr.drew {g : Nat} {a w : World} (h : Gr g a w) : Gr g a w.drew := h.trans (((Kept.refl _).drew).gr g)
theorem Gr.set {g : Nat} {a w : World} (h : Gr g a w) {p : Addr} (hp : p.block = g ∨ a.heap.size ≤ p.block) (u : Value) : Gr g a (w.setCell p u) := by
  refine ⟨h.os, h.tape, h.output, by simpa [World.setCell] using h.size, fun k hk hne => ?_⟩
  refine Eq.trans ?_ (h.block k hk hne)
  have : ¬ p.block = k := by
    rintro rfl
    rcases hp with rfl | hp
    · exact hne rfl
    · omega
  simp [World.setCell, Array.getElem?_modify, this]
theorem Gr.blk {g : Nat} {w w' : World} (h : Gr g w w') {k : Nat} {o : Obj} (hc : w.heap[k]? = some o) (hm : k ≠ g) : w'.heap[k]? = some o :=
  (h.block k (Array.getElem?_eq_some_iff.1 hc).1 (fun e => hm (Option.some.inj e))).trans hc
theorem Gr.cell {g : Nat} {w w' : World} (h : Gr g w w') {a : Addr} {v : Value} (hc : w.cell? a = some v) (hm : a.block ≠ g) : w'.cell? a = some v :=
  World.grownBy.cell h hc (fun e => hm (Option.some.inj e))
theorem Gr.above {g : Nat} {w w1 w2 : World} (h : Kept w w1) (k : Gr g w1 w2) (hm : w.heap.size ≤ g) : Kept w w2 :=
  Below.grown h k h.size (fun j e => by injection e with e; omega)
theorem blk_lt {w : World} {k : Nat} {o : Obj} (h : w.heap[k]? = some o) : k < w.heap.size := (Array.getElem?_eq_some_iff.1 h).1

theorem box6 {w : World} {k : Nat} {a b c d e f : Value} {t : TypeId} (hk : w.heap[k]? = some (.cells #[a, b, c, d, e, f] t (0, 0))) :
    (w.cell? ⟨k, 0, none⟩ = some a ∧ w.cell? ⟨k, 1, none⟩ = some b ∧ w.cell? ⟨k, 2, none⟩ = some c ∧ w.cell? ⟨k, 3, none⟩ = some d ∧ w.cell? ⟨k, 4, none⟩ = some e ∧ w.cell? ⟨k, 5, none⟩ = some f) ∧
    (w.frozen? ⟨k, 0, none⟩ = false ∧ w.frozen? ⟨k, 1, none⟩ = false ∧ w.frozen? ⟨k, 2, none⟩ = false ∧ w.frozen? ⟨k, 3, none⟩ = false ∧ w.frozen? ⟨k, 4, none⟩ = false ∧ w.frozen? ⟨k, 5, none⟩ = false) := by
  refine ⟨⟨?_, ?_, ?_, ?_, ?_, ?_⟩, ?_, ?_, ?_, ?_, ?_, ?_⟩
  iterate 6 rw [blk_cell hk]; rfl
  all_goals exact blk_free hk _
theorem box4 {w : World} {k : Nat} {a b c d : Value} {t : TypeId} (hk : w.heap[k]? = some (.cells #[a, b, c, d] t (0, 0))) :
    (w.cell? ⟨k, 0, none⟩ = some a ∧ w.cell? ⟨k, 1, none⟩ = some b ∧ w.cell? ⟨k, 2, none⟩ = some c ∧ w.cell? ⟨k, 3, none⟩ = some d) ∧
    (w.frozen? ⟨k, 0, none⟩ = false ∧ w.frozen? ⟨k, 1, none⟩ = false ∧ w.frozen? ⟨k, 2, none⟩ = false ∧ w.frozen? ⟨k, 3, none⟩ = false) := by
  refine ⟨⟨?_, ?_, ?_, ?_⟩, ?_, ?_, ?_, ?_⟩
  iterate 4 rw [blk_cell hk]; rfl
  all_goals exact blk_free hk _
theorem blk_set6 {w : World} {k : Nat} {x y z p q r : Value} {t : TypeId} (hk : w.heap[k]? = some (.cells #[x, y, z, p, q, r] t (0, 0))) (a b c d e f : Value) :
    ((((((w.setCell ⟨k, 0, none⟩ a).setCell ⟨k, 1, none⟩ b).setCell ⟨k, 2, none⟩ c).setCell ⟨k, 3, none⟩ d).setCell ⟨k, 4, none⟩ e).setCell ⟨k, 5, none⟩ f).heap[k]? = some (.cells #[a, b, c, d, e, f] t (0, 0)) := by
  simp [World.setCell, Array.getElem?_modify, hk]
theorem blk_set4 {w : World} {k : Nat} {x y z p : Value} {t : TypeId} (hk : w.heap[k]? = some (.cells #[x, y, z, p] t (0, 0))) (a b c d : Value) :
    ((((w.setCell ⟨k, 0, none⟩ a).setCell ⟨k, 1, none⟩ b).setCell ⟨k, 2, none⟩ c).setCell ⟨k, 3, none⟩ d).heap[k]? = some (.cells #[a, b, c, d] t (0, 0)) := by
  simp [World.setCell, Array.getElem?_modify, hk]
/-- A block beside a store. -/
theorem blk_aside {w : World} {k : Nat} {o : Obj} (hk : w.heap[k]? = some o) {p : Addr} (hp : p.block ≠ k) (u : Value) : (w.setCell p u).heap[k]? = some o := by
  simp [World.setCell, Array.getElem?_modify, hp, hk]

/-- The value reads as the pattern x; what it holds lies in blocks of which S. -/
inductive ReAt (S : Nat → Prop) (w : World) : Value → Re → Prop where
  | mk (op : Nat) (x : BitVec 256) (kids : List Re) (A : Option Addr) (cap : Nat) (vs : Nat → Value) (h1 : kids.length ≤ cap) (h2 : cap ≤ maxLen)
      (hc : ∀ (j : Nat) (y : Re), kids[j]? = some y → ∃ k, A = some ⟨k, 0, none⟩ ∧ S k ∧ ∃ a b c d e f, vs j = .agg #[a, b, c, d, e, f] ∧ w.cell? ⟨k, j * 6, none⟩ = some a ∧ w.cell? ⟨k, j * 6 + 1, none⟩ = some b ∧ w.cell? ⟨k, j * 6 + 2, none⟩ = some c ∧ w.cell? ⟨k, j * 6 + 3, none⟩ = some d ∧ w.cell? ⟨k, j * 6 + 4, none⟩ = some e ∧ w.cell? ⟨k, j * 6 + 5, none⟩ = some f)
      (hk : ∀ (j : Nat) (y : Re), kids[j]? = some y → ReAt S w (vs j) y) : ReAt S w (re6 op x (.slice A kids.length cap)) (.mk op x kids)
theorem ReAt.keep {S S' : Nat → Prop} {w w' : World} (hS : ∀ k, k < w.heap.size → S k → S' k) (h : ∀ (a : Addr) (v : Value), S a.block → w.cell? a = some v → w'.cell? a = some v) {u : Value} {x : Re} (hr : ReAt S w u x) : ReAt S' w' u x := by
  induction hr with
  | mk op x kids A cap vs h1 h2 hc hk ih =>
    refine .mk op x kids A cap vs h1 h2 (fun j y hj => ?_) (fun j y hj => ih j y hj)
    obtain ⟨k, e, hgk, a, b, c, d, e', f, hv, c0, c1, c2, c3, c4, c5⟩ := hc j y hj
    exact ⟨k, e, hS k (World.block_lt_of_cell? w _ c0) hgk, a, b, c, d, e', f, hv, h _ _ hgk c0, h _ _ hgk c1, h _ _ hgk c2, h _ _ hgk c3, h _ _ hgk c4, h _ _ hgk c5⟩
theorem ReAt.weak {S S' : Nat → Prop} {w : World} {u : Value} {x : Re} (hr : ReAt S w u x) (hS : ∀ k, k < w.heap.size → S k → S' k) : ReAt S' w u x := hr.keep hS fun _ _ _ hc => hc
theorem ReAt.gr {S : Nat → Prop} {g : Nat} {w w' : World} {u : Value} {x : Re} (hr : ReAt S w u x) (h : Gr g w w') (hg : ¬ S g) : ReAt S w' u x := hr.keep (fun _ _ h => h) fun _ _ ha hc => h.cell hc (fun e => hg (e ▸ ha))
theorem ReAt.kept {S : Nat → Prop} {w w' : World} {u : Value} {x : Re} (hr : ReAt S w u x) (h : Kept w w') : ReAt S w' u x := hr.keep (fun _ _ h => h) fun _ _ _ hc => h.cell hc
theorem ReAt.leaf (S : Nat → Prop) (w : World) (op : Nat) (x : BitVec 256) : ReAt S w (re6 op x (.slice none 0 0)) (.mk op x []) :=
  .mk op x [] none 0 (fun _ => undef) (Nat.le_refl _) (Nat.zero_le _) (fun j y h => by simp at h) (fun j y h => by simp at h)
theorem ReAt.form {S : Nat → Prop} {w : World} {u : Value} {x : Re} (hr : ReAt S w u x) : ∃ op s A n cap, u = re6 op s (.slice A n cap) := by
  cases hr with
  | mk op x kids A cap vs h1 h2 hc hk => exact ⟨_, _, _, _, _, rfl⟩
end Go.Proofs.Ytjlhopfmhhafoaa.Kit
namespace Go.Proofs.Ytjlhopfmhhafoaa.Kit
open Go Go.RowKit
end Go.Proofs.Ytjlhopfmhhafoaa.Kit
