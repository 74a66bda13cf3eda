/-
  Trees of leaves in memory: what a node reads as, kept while memory grows and one counter turns.
-/
import Derived.Test.YtdobbindilibjaaProg
import Derived.Test.YtdobbindilibjaaBytes
import Derived.Test.YtdobbindilibjaaGrow
import Derived.KernelRfl
import Derived.Lib.Bytealg
import Derived.Conc.AtomicLaws2
namespace Go.Proofs.Ytdobbindilibjaa.Kit
open Go Go.RowKit

inductive Tr where
  | leaf (s : List UInt8)
  | node (l r : Tr)

namespace Tr
def text : Tr → List UInt8
  | leaf s => s
  | node l r => l.text ++ r.text
def ht : Tr → Nat
  | leaf _ => 1
  | node l r => max l.ht r.ht + 1
/-- Balanced, no leaf empty or too long. -/
def Ok : Tr → Prop
  | leaf s => 1 ≤ s.length ∧ s.length ≤ 64
  | node l r => l.Ok ∧ r.Ok ∧ l.ht ≤ r.ht + 1 ∧ r.ht ≤ l.ht + 1
end Tr
/-- How many line feeds. -/
def nl (l : List UInt8) : Nat := l.count 10
theorem nl_app (a b : List UInt8) : nl (a ++ b) = nl a + nl b := List.count_append
theorem nl_le (a : List UInt8) : nl a ≤ a.length := List.count_le_length

theorem Tr.ht_pos : ∀ t : Tr, 1 ≤ t.ht
  | leaf _ => Nat.le_refl _
  | node l r => by unfold ht; omega
theorem Tr.ht_le : ∀ t : Tr, t.Ok → t.ht ≤ t.text.length
  | leaf s, h => h.1
  | node l r, h => by
    have h1 := Tr.ht_le l h.1
    have h2 := Tr.ht_le r h.2.1
    have h3 := Tr.ht_pos l
    have h4 := Tr.ht_pos r
    simp only [ht, text, List.length_append]
    omega
theorem Tr.pos : ∀ t : Tr, t.Ok → 1 ≤ t.text.length := fun t h => Nat.le_trans t.ht_pos (t.ht_le h)

/-- A node's block. -/
def nd (l r : Value) (s : List UInt8) (n f h : Nat) : Obj := .cells #[l, r, .string ⟨s.toArray⟩, .int .i64 n, .int .i64 f, .int .i64 h] 57 (0, 0)
def ptr (k : Nat) : Value := .pointer (some ⟨k, 0, none⟩)

/-- The value is a pointer to a node that reads as the tree. -/
def At (w : World) : Value → Tr → Prop
  | v, .leaf s => ∃ k, v = ptr k ∧ w.heap[k]? = some (nd (.pointer none) (.pointer none) s s.length (nl s) 1)
  | v, .node l r => ∃ k a b, v = ptr k ∧ w.heap[k]? = some (nd a b [] (l.text.length + r.text.length) (nl l.text + nl r.text) (max l.ht r.ht + 1)) ∧ At w a l ∧ At w b r

/-- A tree, or none. -/
def OAt (w : World) (v : Value) : Option Tr → Prop
  | none => v = .pointer none
  | some t => At w v t
def otext : Option Tr → List UInt8
  | none => []
  | some t => t.text
def OOk : Option Tr → Prop
  | none => True
  | some t => t.Ok

/-- The maker's block. -/
def Mk (m : Nat) (w : World) : Prop := ∃ c, w.heap[m]? = some (.cells #[.int .i64 c] 50 (0, 0))

/-- Memory is as it was, but for the maker's count. -/
def Gm (m : Nat) (w w' : World) : Prop := w.grownBy w' (some m) ∧ (Mk m w → Mk m w')

theorem Gm.refl (m : Nat) (w : World) : Gm m w w := ⟨grown_refl _ _, id⟩
theorem Gm.trans {m : Nat} {a b c : World} (h : Gm m a b) (k : Gm m b c) : Gm m a c := ⟨h.1.trans k.1, k.2 ∘ h.2⟩
theorem pre_gm (m : Nat) : Pre (Gm m) := ⟨Gm.refl m, Gm.trans⟩
theorem Kept.gm {w w' : World} (h : Kept w w') (m : Nat) : Gm m w w' := ⟨h.grownBy _, fun ⟨c, hc⟩ => ⟨c, h.blk hc⟩⟩
theorem Gm.mk {m : Nat} {w w' : World} (h : Gm m w w') (k : Mk m w) : Mk m w' := h.2 k

theorem Gm.blk {m : Nat} {w w' : World} (h : Gm m w w') {k : Nat} {o : Obj} (hc : w.heap[k]? = some o) (hm : k ≠ m) : w'.heap[k]? = some o :=
  (h.1.block k (Array.getElem?_eq_some_iff.1 hc).1 (fun e => hm (Option.some.inj e))).trans hc
theorem Mk.ne {m : Nat} {w : World} (h : Mk m w) {k : Nat} {cs : Array Value} {t : TypeId} {fr : Nat × Nat} (hc : w.heap[k]? = some (.cells cs t fr)) (ht : t ≠ 50) : k ≠ m := by
  rintro rfl
  obtain ⟨c, h⟩ := h
  rw [h] at hc
  injection hc with hc
  injection hc with _ h2
  exact ht h2.symm

theorem At.keep {w w' : World} (h : ∀ (k : Nat) (cs : Array Value), w.heap[k]? = some (.cells cs 57 (0, 0)) → w'.heap[k]? = some (.cells cs 57 (0, 0))) : ∀ (t : Tr) (v : Value), At w v t → At w' v t
  | .leaf _, _, ⟨k, e, hk⟩ => ⟨k, e, h k _ hk⟩
  | .node l r, _, ⟨k, a, b, e, hk, ha, hb⟩ => ⟨k, a, b, e, h k _ hk, At.keep h l a ha, At.keep h r b hb⟩
theorem At.kept {w w' : World} {v : Value} {t : Tr} (h : At w v t) (hk : Kept w w') : At w' v t := At.keep (fun _ _ hc => hk.blk hc) t v h
theorem At.gm {m : Nat} {w w' : World} {v : Value} {t : Tr} (h : At w v t) (hm : Mk m w) (hk : Gm m w w') : At w' v t := At.keep (fun _ _ hc => hk.blk hc (hm.ne hc (by decide))) t v h
theorem OAt.kept {w w' : World} {v : Value} : ∀ {t : Option Tr}, OAt w v t → Kept w w' → OAt w' v t
  | none, h, _ => h
  | some _, h, hk => At.kept h hk
theorem OAt.gm {m : Nat} {w w' : World} {v : Value} : ∀ {t : Option Tr}, OAt w v t → Mk m w → Gm m w w' → OAt w' v t
  | none, h, _, _ => h
  | some _, h, hm, hk => At.gm h hm hk
theorem Bs.gm {m : Nat} {w w' : World} {v : Value} {l : List UInt8} (h : Bs w v l) (hm : Mk m w) (hk : Gm m w w') : Bs w' v l := by
  obtain ⟨A, c, rfl, h1, h2, h3⟩ := h
  refine ⟨A, c, rfl, h1, h2, fun j u hj => ?_⟩
  obtain ⟨ad, e, hc⟩ := h3 j u hj
  refine ⟨ad, e, hk.1.cell hc fun e => ?_⟩
  obtain ⟨x, hx⟩ := hm
  have hb : (ad.add j).block = m := by injection e
  unfold World.cell? at hc
  rw [hb, hx] at hc
  revert hc
  generalize ad.add j = q
  rcases q with ⟨b, i, _ | p⟩
  · match i with
    | 0 => simp [bv]
    | i + 1 => simp
  · simp [bv]

/-- What every node says. -/
theorem At.block {w : World} : ∀ {t : Tr} {v : Value}, At w v t → ∃ k a b s, v = ptr k ∧ w.heap[k]? = some (nd a b s t.text.length (nl t.text) t.ht)
  | .leaf s, v, ⟨k, e, hk⟩ => ⟨k, _, _, s, e, hk⟩
  | .node l r, v, ⟨k, a, b, e, hk, _, _⟩ => ⟨k, a, b, [], e, by rw [hk]; simp only [Tr.text, Tr.ht, List.length_append, nl_app]⟩

theorem box6 {w : World} {k : Nat} {l r : Value} {s : List UInt8} {n f h : Nat} (hk : w.heap[k]? = some (nd l r s n f h)) :
    w.cell? ⟨k, 0, none⟩ = some l ∧ w.cell? ⟨k, 1, none⟩ = some r ∧ w.cell? ⟨k, 2, none⟩ = some (.string ⟨s.toArray⟩) ∧ w.cell? ⟨k, 3, none⟩ = some (.int .i64 n) ∧ w.cell? ⟨k, 4, none⟩ = some (.int .i64 f) ∧ w.cell? ⟨k, 5, none⟩ = some (.int .i64 h) := by
  unfold nd at hk
  refine ⟨?_, ?_, ?_, ?_, ?_, ?_⟩ <;> rw [blk_cell hk] <;> rfl
end Go.Proofs.Ytdobbindilibjaa.Kit
