/-
  One more put behind a row of the call's own: the elder row reads as before. Conditions: the row is no longer than 100000.
-/
import Derived.Test.YtdbffbdpofodmaaMkr
namespace Go.Proofs.Ytdbffbdpofodmaa.Kit
open Go Go.RowKit
theorem Rn.append_old {e size base : Nat} {w : World} {v : Value} {vs : List (List Value)} (t ty bytes : Nat) (z : Value)
    (ht : Try.prog.underlying t = some (.slice e)) (hi : (Try.prog.info? e).map (fun i => (i.zero, i.size, i.bytes)) = some (some z, size, bytes)) (hz : z.cells.size = size) (hs0 : 0 < size) (hs9 : bytes ≤ 1000)
    (h : Rn e size base w v vs) (u : List Value) (hu : u.length = size) (hu1 : ∀ c ∈ u, c.oneCell' = true) (k : Nat) (hk : ∀ (j : Nat) (c : Value), u[j]? = some c → w.cell? ⟨k, j, none⟩ = some c) (hn : vs.length ≤ 100000) (hb : base ≤ w.heap.size) :
    ∃ v' w', (Builtin.append_ #[t, t] ty #[v, .slice (some ⟨k, 0, none⟩) 1 1]).run Try.prog w = .ok v' w' ∧ Rn e size base w' v' (vs ++ [u]) ∧ Rn e size base w' v vs ∧ w.grownBy w' v.ownBlock ∧ (v'.ownBlock = v.ownBlock ∨ v'.ownBlock = some w.heap.size) := by
  have hnews : ∀ (j : Nat) (c : Value), u[j]? = some c → w.cell? ((⟨k, 0, none⟩ : Addr).add j) = some c := fun j c hj => by
    have e : (⟨k, 0, none⟩ : Addr).add j = ⟨k, j, none⟩ := by unfold Addr.add; split <;> simp_all
    rw [e]; exact hk j c hj
  have hm2 : maxLen = 9223372036854775807 := rfl
  have hmul : (vs.length + 1) * bytes ≤ 100001 * 1000 := Nat.mul_le_mul (by omega) hs9
  cases hi' : Try.prog.info? e with
  | none => rw [hi'] at hi; cases hi
  | some i =>
    rw [hi'] at hi
    simp only [Option.map_some, Option.some.injEq, Prod.mk.injEq] at hi
    obtain ⟨hi1, hi2, hi3⟩ := hi
    obtain ⟨v', w', hr, h2, h3, -, h5⟩ := run_append_own_at (P := Try.prog) w base t ty e i z size bytes ht hi' hi1 hi2 hi3 hz hs0 v vs.length _ h.1 ⟨k, 0, none⟩ 1 1 u (by omega) hnews hu1 (by rw [hm2]; omega) (by omega) hb
    refine ⟨v', w', hr, ⟨?_, fun q hq => ?_⟩, ⟨⟨h.1.1, ?_⟩, h.2⟩, h3, h5⟩
    · rw [List.length_append, List.flatten_append]
      simpa using h2
    · rcases List.mem_append.1 hq with hq | hq
      · exact h.2 q hq
      · rw [List.mem_singleton.1 hq]; exact ⟨hu, hu1⟩
    · have hown := h.1
      rcases h.1.2 with h0 | ⟨g, cap, cur, rfl, hbg, hg, hnc, hcm, hcs, htake⟩
      · exact .inl h0
      · by_cases hroom : vs.length + 1 ≤ cap
        · have hfit : vs.length * i.size + u.length ≤ cur.size := by rw [hu, hcs, hi2, ← Nat.succ_mul]; exact Nat.mul_le_mul_right _ hroom
          have hr2 := run_append_room (P := Try.prog) w t ty e i ht hi' g vs.length cap cur hg ⟨k, 0, none⟩ 1 1 u (by omega) hnews hu1 hroom hfit
          rw [hr] at hr2
          injection hr2 with _ hw
          rw [hw]
          refine .inr ⟨g, cap, _, rfl, hbg, setRow_heap w g cur _ e _ hg, hnc, hcm, ?_, ?_⟩
          · simp only [List.size_toArray, List.length_append, List.length_take, List.length_drop, Array.length_toList]
            omega
          · rw [hi2]
            simp only [List.append_assoc]
            rw [List.take_append_of_le_length (by have hx := Nat.mul_le_mul_right size hnc; rw [List.length_take]; exact Nat.le_min.2 ⟨Nat.le_refl _, by have e : cur.toList.length = cur.size := Array.length_toList; rw [e, hcs]; exact hx⟩), List.take_take, Nat.min_self]
            exact htake
        · have holds : ∀ j u, vs.flatten[j]? = some u → w.cell? ((⟨g, 0, none⟩ : Addr).add j) = some u := hown.cells (g := g) rfl
          have hr2 := run_append_grow (P := Try.prog) w t ty e i z ht hi' hi1 ⟨g, 0, none⟩ vs.length cap _ (by rw [hi2]; exact hown.1) holds ⟨k, 0, none⟩ 1 1 u (by omega) hnews (by omega) (by omega) (by rw [hi3]; exact growslice_fits (by omega) (by omega))
          rw [hr] at hr2
          injection hr2 with _ hw
          rw [hw]
          exact .inr ⟨g, cap, cur, rfl, hbg, (heap_alloc_old w.drew _ (r := g) (Array.getElem?_eq_some_iff.1 hg).1).trans hg, hnc, hcm, hcs, htake⟩
end Go.Proofs.Ytdbffbdpofodmaa.Kit
