/-
  What comes in, as the walks want it: a list of numbers, a list of splices.
-/
import Derived.Test.YtdobbindilibjaaOpen
import Derived.Deep.Slices
import Derived.Deep.Strs
namespace Go.Proofs.Ytdobbindilibjaa.Kit
open Go Go.RowKit Go.ChangeShapes Go.WideShapes Go.ChangeAt Go.Joins
/-- The value v is a slice that reads as the numbers l. -/
def Is (w : World) (v : Value) (l : List Int) : Prop :=
  ∃ A c, v = .slice A l.length c ∧ l.length ≤ c ∧ c ≤ maxLen ∧ ∀ j u, l[j]? = some u → ∃ ad, A = some ad ∧ w.cell? (ad.add j) = some (.int .i64 u)
/-- One splice in memory. -/
def Sp1 (w : World) (ad : Addr) (j : Nat) (x : Int × Int × List UInt8) : Prop :=
  ∃ B o, ad.add (j * 3) = ⟨B, o, none⟩ ∧ w.cell? ⟨B, o, none⟩ = some (.int .i64 x.1) ∧ w.cell? ⟨B, o + 1, none⟩ = some (.int .i64 x.2.1) ∧ ∃ s, w.cell? ⟨B, o + 2, none⟩ = some s ∧ Bs w s x.2.2
/-- The value v is a slice that reads as the splices l. -/
def Sps (w : World) (v : Value) (l : List (Int × Int × List UInt8)) : Prop :=
  ∃ A c, v = .slice A l.length c ∧ l.length ≤ c ∧ c ≤ maxLen ∧ ∀ j x, l[j]? = some x → ∃ ad, A = some ad ∧ Sp1 w ad j x
theorem Is.kept {w w' : World} {v : Value} {l : List Int} (h : Is w v l) (k : Kept w w') : Is w' v l := by
  obtain ⟨A, c, h1, h2, h3, h4⟩ := h
  exact ⟨A, c, h1, h2, h3, fun j u hj => let ⟨ad, e, hc⟩ := h4 j u hj; ⟨ad, e, k.cell hc⟩⟩
theorem Sp1.kept {w w' : World} {ad : Addr} {j : Nat} {x : Int × Int × List UInt8} (h : Sp1 w ad j x) (k : Kept w w') : Sp1 w' ad j x := by
  obtain ⟨B, o, h0, h1, h2, s, h3, h4⟩ := h
  exact ⟨B, o, h0, k.cell h1, k.cell h2, s, k.cell h3, h4.keep k⟩
theorem Sps.kept {w w' : World} {v : Value} {l : List (Int × Int × List UInt8)} (h : Sps w v l) (k : Kept w w') : Sps w' v l := by
  obtain ⟨A, c, h1, h2, h3, h4⟩ := h
  exact ⟨A, c, h1, h2, h3, fun j u hj => let ⟨ad, e, hc⟩ := h4 j u hj; ⟨ad, e, hc.kept k⟩⟩
end Go.Proofs.Ytdobbindilibjaa.Kit
namespace Go.Proofs.Ytdobbindilibjaa
open Go Go.RowKit Go.ChangeShapes Go.WideShapes Go.ChangeAt Go.Joins Go.Deep Kit
theorem cells3 : Try.prog.cellsOf 3 = 1 := by kernel_rfl
theorem cells22 : Try.prog.cellsOf 22 = 1 := by kernel_rfl
theorem ints_in {H : Type} {enc : TypeId × Value → H} {W : World} {v : Value} {d : DataW H} {p : List MemPlace} (h : DataW.Trod enc Try.prog W 0 (fun _ => true) true 41 v d p) (hv : ∃ A n c, v = .slice A n c) : ∃ A n c l, v = .slice A n c ∧ Is W (.slice A n c) l := by
  obtain ⟨A, n, c, rfl⟩ := hv
  obtain ⟨fuel, hf⟩ := h
  rcases open_ints (k := .i64) Try.underlying41 Try.underlying3 (by kernel_rfl) (by simpa [Value.cells] using hf) with ⟨hcs, _⟩ | ⟨a, len, cap, zs, hcs, _, hl, hm, hz, _, hcell, hwz⟩
  · simp at hcs
    obtain ⟨rfl, rfl, rfl⟩ := hcs
    exact ⟨none, 0, 0, [], rfl, none, 0, rfl, Nat.le_refl _, Nat.zero_le _, fun j u h => by simp at h⟩
  · simp at hcs
    obtain ⟨rfl, rfl, rfl⟩ := hcs
    simp only [if_true] at hz
    refine ⟨some a, n, c, zs.take n, rfl, some a, c, by simp; omega, by simp; omega, hm, fun j u hj => ⟨a, rfl, ?_⟩⟩
    rw [List.getElem?_take] at hj
    split at hj
    · have hjl := (List.getElem?_eq_some_iff.1 hj).1
      rw [hcell j hjl, List.getD_eq_getElem?_getD, hj]
      rfl
    · cases hj
theorem splices_in {H : Type} {enc : TypeId × Value → H} {W : World} {v : Value} {d : DataW H} {p : List MemPlace} (h : DataW.Trod enc Try.prog W 0 (fun _ => true) true 23 v d p) (hv : ∃ A n c, v = .slice A n c) : ∃ A n c l, v = .slice A n c ∧ Sps W (.slice A n c) l := by
  obtain ⟨A, n, c, rfl⟩ := hv
  obtain ⟨fuel, hf⟩ := h
  rcases open_slice Try.underlying23 (by simpa [Value.cells] using hf) with ⟨hcs, _⟩ | ⟨a, len, cap, m, q, D, Pl, hcs, _, hl, hm, hmm, _, hi⟩
  · simp at hcs
    obtain ⟨rfl, rfl, rfl⟩ := hcs
    exact ⟨none, 0, 0, [], rfl, none, 0, rfl, Nat.le_refl _, Nat.zero_le _, fun j u h => by simp at h⟩
  · simp at hcs
    obtain ⟨rfl, rfl, rfl⟩ := hcs
    simp only [if_true] at hmm
    have each : ∀ i, i < n → ∃ x, Sp1 W a i x := fun i hin => by
      obtain ⟨cs, hc, ht⟩ := hi i (by omega)
      rw [cells35] at hc
      obtain ⟨y0, y1, y2, k, _, hlen, h0, h1, h2⟩ := trod_struct3 Try.underlying35 ht
      obtain ⟨_, hcl, hat⟩ := World.cells?_some hc
      match cs, hcl with
      | [e0, e1, e2], _ =>
        obtain ⟨z0, q0, _, _⟩ := DataW.trod_int (k := .i64) Try.underlying3 h0
        obtain ⟨z1, q1, _, _⟩ := DataW.trod_int (k := .i64) Try.underlying3 h1
        have g0 : e0 = .int .i64 z0 := by simpa [cells3] using q0
        have g1 : e1 = .int .i64 z1 := by simpa [cells3] using q1
        subst g0 g1
        obtain ⟨A2, n2, c2, l2, g2, hb⟩ := bytes_of (v := e2) Try.underlying22 Try.underlying5 cells5 (by simpa [cells22] using h2)
        subst g2
        have a0 := hat 0 (by omega)
        have a1 := hat 1 (by omega)
        have a2 := hat 2 (by omega)
        generalize hp : a.add (i * 3) = p at *
        obtain ⟨B, o, sp⟩ := p
        have e0 : (⟨B, o, sp⟩ : Addr).add 0 = ⟨B, o, sp⟩ := rfl
        have e1 : (⟨B, o, sp⟩ : Addr).add 1 = ⟨B, o + 1, none⟩ := rfl
        have e2 : (⟨B, o, sp⟩ : Addr).add 2 = ⟨B, o + 2, none⟩ := rfl
        rw [e0] at a0
        rw [e1] at a1
        rw [e2] at a2
        have hs : sp = none := by
          cases sp with
          | none => rfl
          | some q =>
            simp only [World.cell?, Option.isSome_some, if_true] at a0
            split at a0 <;> simp at a0
        subst hs
        exact ⟨(z0, z1, l2), B, o, hp, by simpa using a0, by simpa using a1, _, by simpa using a2, hb⟩
    refine ⟨some a, n, c, (List.range n).map fun i => if hi : i < n then Classical.choose (each i hi) else (0, 0, []), rfl, some a, c, by simp, by simpa using hl, hm, fun j x hj => ⟨a, rfl, ?_⟩⟩
    simp only [List.getElem?_map, Option.map_eq_some_iff] at hj
    obtain ⟨i, hi', rfl⟩ := hj
    obtain ⟨hlt, he⟩ := List.getElem?_eq_some_iff.1 hi'
    simp only [List.length_range] at hlt
    simp only [List.getElem_range] at he
    subst he
    rw [dif_pos hlt]
    exact Classical.choose_spec (each j hlt)
end Go.Proofs.Ytdobbindilibjaa
