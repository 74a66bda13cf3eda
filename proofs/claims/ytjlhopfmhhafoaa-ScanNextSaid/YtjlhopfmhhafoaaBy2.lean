/-
  Bytes that are appended: more of what memory does. Conditions: none.
-/
import Derived.Test.YtjlhopfmhhafoaaBytes
set_option linter.unusedSimpArgs false
namespace Go.Proofs.Ytjlhopfmhhafoaa.Kit
open Go Go.RowKit
theorem Kept.of_grown {w w' : World} (h : w.grownBy w' none) : Kept w w' := ⟨h.os, h.tape, h.output, h.size, fun k hk => h.block k hk (by simp)⟩
/-- A row of the call's own reads as the bytes. -/
theorem Bs.of_own {w : World} {base : Nat} {e : TypeId} {v : Value} {n : Nat} {l : List UInt8} (h : w.ownsRow base e 1 v n (l.map bv)) : Bs w v l := by
  have hn : l.length = n := by have := h.1; simpa using this
  subst hn
  rcases h.2 with ⟨rfl, h0⟩ | ⟨g, cap, cur, rfl, hb, hh, hle, hm, hcs, ht⟩
  · have : l = [] := List.eq_nil_of_length_eq_zero h0
    subst this
    exact Bs.nil w
  · refine ⟨_, cap, rfl, hle, hm, fun j u hj => ⟨_, rfl, ?_⟩⟩
    exact h.cells (g := g) rfl j (bv u) (by simp [hj])

theorem bv_one (l : List UInt8) : ∀ u ∈ l.map bv, u.oneCell' = true := by
  intro u hu
  obtain ⟨c, _, rfl⟩ := List.mem_map.1 hu
  rfl

/-- append(v, x...) onto a row of the call's own. -/
theorem run_app {P : Program} (w : World) (base : Nat) (t ty e : TypeId) (i : TypeInfo) (z : Value) (ht : P.underlying t = some (.slice e)) (hi : P.info? e = some i) (hz : i.zero = some z)
    (hsize : i.size = 1) (hby : i.bytes = 1) (hzs : z.cells.size = 1) (v : Value) (n : Nat) (xs : List UInt8) (hown : w.ownsRow base e 1 v n (xs.map bv)) (x : Value) (l : List UInt8) (hx : Bs w x l)
    (hbytes : n + l.length ≤ 140737488355328) (hbase : base ≤ w.heap.size) :
    ∃ v' w', (Builtin.append_ #[t, t] ty #[v, x]).run P w = .ok v' w' ∧ w'.ownsRow base e 1 v' (n + l.length) ((xs ++ l).map bv) ∧ w.grownBy w' v.ownBlock ∧
      (v'.ownBlock = v.ownBlock ∨ v'.ownBlock = some w.heap.size) := by
  obtain ⟨A, c, rfl, h1, h2, h3⟩ := hx
  cases A with
  | none =>
    have : l = [] := by
      cases l with
      | nil => rfl
      | cons x r => obtain ⟨ad, e, _⟩ := h3 0 x rfl; cases e
    subst this
    refine ⟨v, w, ?_, by simpa using hown, ⟨rfl, rfl, rfl, Nat.le_refl _, fun _ _ _ => rfl⟩, .inl rfl⟩
    rcases hown.2 with ⟨rfl, rfl⟩ | ⟨g, cap, cur, rfl, _, _, hnc, _⟩
    · simp [Builtin.append_, run_underlying ht, sizeOf, typeInfo, hi, Builtin.lenOf, Builtin.firstCells]
    · simp [Builtin.append_, run_underlying ht, sizeOf, typeInfo, hi, Builtin.lenOf, Builtin.firstCells, hnc, storeCells]
  | some a =>
    have hm : maxLen = 9223372036854775807 := rfl
    obtain ⟨v', w', hr, h4, h5, _, h6⟩ := run_append_own_at (P := P) w base t ty e i z 1 1 ht hi hz hsize hby hzs (by omega) v n (xs.map bv) hown a l.length c (l.map bv) (by simp)
      (fun j u hj => by
        simp only [List.getElem?_map, Option.map_eq_some_iff] at hj
        obtain ⟨q, hq, rfl⟩ := hj
        obtain ⟨ad, e, hc⟩ := h3 j q hq
        cases e
        exact hc) (bv_one l) (by rw [hm]; omega) (by omega) hbase
    exact ⟨v', w', hr, by simpa using h4, h5, h6⟩

/-- append([]byte(nil), x...): a new list of the same bytes. -/
theorem run_fresh {P : Program} (w : World) (t ty e : TypeId) (i : TypeInfo) (z : Value) (ht : P.underlying t = some (.slice e)) (hi : P.info? e = some i) (hz : i.zero = some z)
    (hsize : i.size = 1) (hby : i.bytes = 1) (hzs : z.cells.size = 1) (x : Value) (l : List UInt8) (hx : Bs w x l) (hl : l.length ≤ 140737488355328) :
    ∃ v' w', (Builtin.append_ #[t, t] ty #[.slice none 0 0, x]).run P w = .ok v' w' ∧ Bs w' v' l ∧ Kept w w' := by
  obtain ⟨v', w', hr, h2, h3, _⟩ := run_app (P := P) w w.heap.size t ty e i z ht hi hz hsize hby hzs (.slice none 0 0) 0 [] (World.ownsRow_nil w _ e 1) x l hx (by omega) (Nat.le_refl _)
  exact ⟨v', w', hr, Bs.of_own (by simpa using h2), Kept.of_grown (by simpa [Value.ownBlock] using h3)⟩

end Go.Proofs.Ytjlhopfmhhafoaa.Kit
