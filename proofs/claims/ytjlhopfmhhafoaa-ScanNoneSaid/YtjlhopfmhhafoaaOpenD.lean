/-
  What comes in, as the walks want it: a list of bytes, an automaton. Conditions: none.
-/
import Derived.Test.YtjlhopfmhhafoaaRows
import Derived.Test.YtjlhopfmhhafoaaScanA
import Derived.KernelRfl
import Derived.ProofKit
import Derived.OpenShut
import Derived.ChangeOld
import Derived.Lib.SmallJoins
import Derived.Deep.Slices
namespace Go.Proofs.Ytjlhopfmhhafoaa.Kit
open Go Go.RowKit Go.ChangeShapes Go.WideShapes Go.ChangeAt Go.Joins Go.Deep
theorem byte_of {z : Int} (h : (Lit.int .u8 z).wf = true) : bv (UInt8.ofNat z.toNat) = .int .u8 z := by
  have hb : 0 ≤ z ∧ z ≤ 255 := by simpa [Lit.wf, IntKind.min, IntKind.max, IntKind.signed, IntKind.bits] using h
  unfold bv
  congr 1
  rw [UInt8.toNat_ofNat']
  omega
/-- A []byte that came in. -/
theorem bytes_of {H : Type} {enc : TypeId × Value → H} {P : Program} {w : World} {base : Nat} {spare : Nat → Bool} {held : Bool} {fuel : Nat} {t e : TypeId} {v : Value} {x : DataW H × List MemPlace} (ht : P.underlying t = some (.slice e)) (he : P.underlying e = some (.int .u8)) (hc : P.cellsOf e = 1)
    (h : DataW.trod enc P w base spare held fuel t [v] = some x) : ∃ l, Bs w v l := by
  rcases open_ints ht he hc h with ⟨hcs, _⟩ | ⟨a, len, cap, zs, hcs, _, hl, hm, hz, _, hcell, hwz⟩
  · simp at hcs
    subst hcs
    exact ⟨[], Bs.nil w⟩
  · simp at hcs
    subst hcs
    have hlz : len ≤ zs.length := by rw [hz]; split <;> omega
    refine ⟨(zs.take len).map fun z => UInt8.ofNat z.toNat, some a, cap, by simp; omega, by simp; omega, hm, fun j u hj => ⟨a, rfl, ?_⟩⟩
    simp only [List.getElem?_map, Option.map_eq_some_iff] at hj
    obtain ⟨z, hz1, rfl⟩ := hj
    rw [List.getElem?_take] at hz1
    split at hz1
    · have hjl := (List.getElem?_eq_some_iff.1 hz1).1
      have hzm : z ∈ zs := List.mem_of_getElem? hz1
      rw [hcell j hjl, byte_of (hwz z hzm), List.getD_eq_getElem?_getD, hz1]
      rfl
    · cases hz1
/-- A []int that came in. -/
theorem ints_of {H : Type} {enc : TypeId × Value → H} {P : Program} {w : World} {base : Nat} {spare : Nat → Bool} {held : Bool} {fuel : Nat} {t e : TypeId} {v : Value} {x : DataW H × List MemPlace} (ht : P.underlying t = some (.slice e)) (he : P.underlying e = some (.int .i64)) (hc : P.cellsOf e = 1)
    (h : DataW.trod enc P w base spare held fuel t [v] = some x) : ∃ l, Ld w v (zs l) := by
  rcases open_ints ht he hc h with ⟨hcs, _⟩ | ⟨a, len, cap, ns, hcs, _, hl, hm, hz, _, hcell, hwz⟩
  · simp at hcs
    subst hcs
    exact ⟨[], none, 0, rfl, Nat.le_refl _, Nat.zero_le _, fun j u h => by simp [zs] at h⟩
  · simp at hcs
    subst hcs
    have hlz : len ≤ ns.length := by rw [hz]; split <;> omega
    refine ⟨ns.take len, some a, cap, by simp [zs]; omega, by simp [zs]; omega, hm, fun j u hj => ⟨a, rfl, ?_⟩⟩
    simp only [zs, List.getElem?_map, Option.map_eq_some_iff] at hj
    obtain ⟨z, hz1, rfl⟩ := hj
    rw [List.getElem?_take] at hz1
    split at hz1
    · have hjl := (List.getElem?_eq_some_iff.1 hz1).1
      rw [hcell j hjl, List.getD_eq_getElem?_getD, hz1]
      rfl
    · cases hz1
/-- A [][]int that came in. -/
theorem rows_of {H : Type} {enc : TypeId × Value → H} {P : Program} {w : World} {spare : Nat → Bool} {held : Bool} {fuel : Nat} {t e e2 : TypeId} {v : Value} {x : DataW H × List MemPlace} (ht : P.underlying t = some (.slice e)) (he : P.underlying e = some (.slice e2)) (he2 : P.underlying e2 = some (.int .i64)) (hc : P.cellsOf e = 1) (hc2 : P.cellsOf e2 = 1)
    (h : DataW.trod enc P w 0 spare held fuel t [v] = some x) : ∃ (vs : List Value) (rows : List (List Int)), Ld w v vs ∧ vs.length = rows.length ∧ ∀ (j : Nat) (u : Value) (r : List Int), vs[j]? = some u → rows[j]? = some r → Ld w u (zs r) := by
  rcases open_slice ht h with ⟨hcs, _⟩ | ⟨a, len, cap, m, q, D, Pl, hcs, _, hl, hm, hmm, _, hi⟩
  · simp at hcs
    subst hcs
    exact ⟨[], [], ⟨none, 0, rfl, Nat.le_refl _, Nat.zero_le _, fun j u h => by simp at h⟩, rfl, fun j u r h => by simp at h⟩
  · simp at hcs
    subst hcs
    have hlm : len ≤ m := by rw [hmm]; split <;> omega
    have each : ∀ i, i < len → ∃ (u : Value) (r : List Int), w.cell? (a.add i) = some u ∧ Ld w u (zs r) := fun i hin => by
      obtain ⟨cs, h1, h2⟩ := hi i (by omega)
      rw [hc] at h1
      obtain ⟨_, hcl, hat⟩ := World.cells?_some h1
      match cs, hcl with
      | [u], _ =>
        obtain ⟨r, hr⟩ := ints_of (v := u) he he2 hc2 h2
        have a0 := hat 0 (by omega)
        rw [Nat.mul_one] at a0
        have e0 : (a.add i).add 0 = a.add i := by
          unfold Addr.add
          split <;> simp_all
        rw [e0] at a0
        exact ⟨u, r, by simpa using a0, hr⟩
    refine ⟨(List.range len).map fun i => if hh : i < len then Classical.choose (each i hh) else undef, (List.range len).map fun i => if hh : i < len then Classical.choose (Classical.choose_spec (each i hh)) else [], ⟨some a, cap, by simp, by simpa using hl, hm, fun j u hj => ⟨a, rfl, ?_⟩⟩, by simp, fun j u r h1 h2 => ?_⟩
    · simp only [List.getElem?_map, Option.map_eq_some_iff] at hj
      obtain ⟨i, hi', rfl⟩ := hj
      obtain ⟨hlt, he⟩ := List.getElem?_eq_some_iff.1 hi'
      simp only [List.length_range] at hlt
      simp only [List.getElem_range] at he
      subst he
      rw [dif_pos hlt]
      exact (Classical.choose_spec (Classical.choose_spec (each j hlt))).1
    · simp only [List.getElem?_map, Option.map_eq_some_iff] at h1 h2
      obtain ⟨i, hi', rfl⟩ := h1
      obtain ⟨i2, hi2', rfl⟩ := h2
      obtain ⟨hlt, he⟩ := List.getElem?_eq_some_iff.1 hi'
      obtain ⟨hlt2, he2⟩ := List.getElem?_eq_some_iff.1 hi2'
      simp only [List.length_range] at hlt
      simp only [List.getElem_range] at he he2
      subst he
      subst he2
      rw [dif_pos hlt, dif_pos hlt]
      exact (Classical.choose_spec (Classical.choose_spec (each j hlt))).2
end Go.Proofs.Ytjlhopfmhhafoaa.Kit
namespace Go.Proofs.Ytjlhopfmhhafoaa
open Go Go.RowKit Go.ChangeShapes Go.WideShapes Go.ChangeAt Go.Joins Kit
theorem own : ownKnob Try.prog.godebug = none := by kernel_rfl
theorem laidOut : laidOutB Try.prog = true := by kernel_rfl
theorem cells5 : Try.prog.cellsOf 5 = 1 := by kernel_rfl
theorem cells3 : Try.prog.cellsOf 3 = 1 := by kernel_rfl
theorem cells23 : Try.prog.cellsOf 23 = 1 := by kernel_rfl
theorem cells22 : Try.prog.cellsOf 22 = 1 := by kernel_rfl
theorem cells25 : Try.prog.cellsOf 25 = 2 := by kernel_rfl
theorem bytes_in {H : Type} {enc : TypeId × Value → H} {W : World} {v : Value} {d : DataW H} {p : List MemPlace} (h : DataW.Trod enc Try.prog W 0 (fun _ => true) true 26 v d p) (hv : ∃ A n c, v = .slice A n c) : ∃ l, Bs W v l := by
  obtain ⟨A, n, c, rfl⟩ := hv
  obtain ⟨fuel, hf⟩ := h
  exact bytes_of Try.underlying26 Try.underlying5 cells5 (by simpa [Value.cells] using hf)
set_option maxRecDepth 100000 in
theorem dfa_in {H : Type} {enc : TypeId × Value → H} {W : World} {base : Nat} {v : Value} {d : DataW H} {p : List MemPlace} (hv : Value.okWide Try.prog W .any base 25 v) (h : DataW.Trod enc Try.prog W 0 (fun _ => true) true 25 v d p) :
    ∃ (vn va : Value) (x : Dfa) (vs : List Value), v = .agg #[vn, va] ∧ DfaAt W vn va x vs := by
  obtain ⟨v0, v1, y0, y1, m, rfl, rfl, rfl, h0, h1⟩ := open_agg2 Try.underlying25 (by kernel_rfl) cells25 hv h
  obtain ⟨vs, rows, e1, e2, e3⟩ := rows_of Try.underlying22 Try.underlying23 Try.underlying3 cells23 cells3 h0
  obtain ⟨acc, e4⟩ := ints_of Try.underlying23 Try.underlying3 cells3 h1
  exact ⟨v0, v1, ⟨rows, acc⟩, vs, rfl, e1, e2, e3, e4⟩
end Go.Proofs.Ytjlhopfmhhafoaa
